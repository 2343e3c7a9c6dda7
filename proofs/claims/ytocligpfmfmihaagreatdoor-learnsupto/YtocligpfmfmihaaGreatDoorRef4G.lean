import Derived.Test.YtocligpfmfmihaaGreatDoorRefG
namespace Go.Proofs.YtocligpfmfmihaaGreatDoor
open Go Go.RowKit
variable {W w w' : World} {rb k : Nat} {s : ByteArray} {bad : Bool}
theorem Rs.at2 (h : Rs W w rb s k bad) (k' : Nat) (b : Bool) (h1 : k' ≤ s.size + 9) (h2 : b = false → k' ≤ s.size) : Rs W ((w.setCell ⟨rb, 1, none⟩ (.int .i64 k')).setCell ⟨rb, 2, none⟩ (.bool b)) rb s k' b := by
 refine ⟨h.gl, (h.old.setCell (p := ⟨rb, 1, none⟩) h.ge _).setCell (p := ⟨rb, 2, none⟩) h.ge _, ?_, h.ge, h.sz, h1, h2⟩
 have := h.rdr
 simp [World.setCell, Array.getElem?_modify, this]
theorem rword_c (h : Rs W w rb s k bad) (t : ByteArray) (ht : t.size ≤ 10) :
  Calls Tryz.prog 125 #[.pointer (some ⟨rb, 0, none⟩), .string t] w fun e w' => e = .returned (.tuple #[]) ∧ Kp (· = rb) w w' ∧
   ∃ k' bad', Rs W w' rb s k' bad' ∧ (k' ≤ k ∨ k' ≤ s.size) ∧ ((bad = false ∧ bad' = false ∧ ∃ r, rest s k = t.data.toList ++ r ∧ rest s k' = r) ∨ (bad' = true ∧ k' = k ∧ (bad = true ∨ ∀ r, rest s k ≠ t.data.toList ++ r))) := by
 cases bad with
 | true =>
  refine (word_bad h t).mono ?_
  rintro e w1 ⟨rfl, K1, h1⟩
  exact ⟨rfl, K1, k, true, h1, Or.inl (Nat.le_refl _), Or.inr ⟨rfl, rfl, Or.inl rfl⟩⟩
 | false =>
  by_cases hp : ∃ r, rest s k = t.data.toList ++ r
  ·obtain ⟨r, hp⟩ := hp
   refine (word_yes h t ht r hp).mono ?_
   rintro e w1 ⟨rfl, K1, k1, h1, h2⟩
   exact ⟨rfl, K1, k1, false, h1, Or.inr (h1.good rfl), Or.inl ⟨rfl, rfl, r, hp, h2⟩⟩
  ·refine (word_no h t ht (fun r e => hp ⟨r, e⟩)).mono ?_
   rintro e w1 ⟨rfl, K1, h1⟩
   exact ⟨rfl, K1, k, true, h1, Or.inl (Nat.le_refl _), Or.inr ⟨rfl, rfl, Or.inr fun r e => hp ⟨r, e⟩⟩⟩
def EsR (W w : World) (rb : Nat) (s : ByteArray) (o : Option (Nat × Bs)) (e : Ending) (w' : World) : Prop :=
 ∃ v : Int, e = .returned (.int .i32 v) ∧ 0 ≤ v ∧ v < 100000000 ∧ Kp (· = rb) w w' ∧ ∃ k' bad', Rs W w' rb s k' bad' ∧ match o with | some (x, r) => bad' = false ∧ v = (x : Int) ∧ rest s k' = r | none => bad' = true
theorem esR_some {o : Option (Nat × Bs)} {x k' : Nat} {r : Bs} (ho : o = some (x, r)) (hx : x < 100000000) (hk : Kp (· = rb) w w') (hs : Rs W w' rb s k' false) (hr : rest s k' = r) : EsR W w rb s o (.returned (.int .i32 (x : Int))) w' := by
 subst ho
 exact ⟨_, rfl, by omega, by omega, hk, k', false, hs, rfl, rfl, hr⟩
theorem esR_none {o : Option (Nat × Bs)} {k' : Nat} {v : Int} (ho : o = none) (h0 : 0 ≤ v) (h1 : v < 100000000) (hk : Kp (· = rb) w w') (hs : Rs W w' rb s k' true) : EsR W w rb s o (.returned (.int .i32 v)) w' := by
 subst ho
 exact ⟨_, rfl, h0, h1, hk, k', true, hs, rfl⟩
set_option maxRecDepth 20000 in
set_option maxHeartbeats 1000000 in
theorem resc_c (h : Rs W w rb s k false) (l : Bs) (hl : rest s k = 92 :: l) :
  Calls Tryz.prog 171 #[.pointer (some ⟨rb, 0, none⟩)] w fun e w' => EsR W w rb s (esc l) e w' := by
 have hsz := h.sz
 go_enter Tryz.func171, Tryz.ntmps171
 go_wp2_with fail
 refine (word_yes h ⟨#[92]⟩ (by decide) l hl).mono ?_
 rintro e w1 ⟨rfl, K1, k1, h1, r1⟩
 clear hl
 have hg := h1.good rfl
 obtain ⟨c0, c1, c2, f1, f2, hb⟩ := h1.facts
 have hlen := rest_len s k1
 rw [r1] at hlen
 have hr2 : rest s (k1 + 1) = l.tail := by rw [rest_add, r1, List.drop_one]
 have R := hide (And.intro r1 hr2)
 clear r1 hr2
 go_wp2_with fail
 refine (peek_c h1).mono ?_
 rintro e w2 ⟨rfl, n, rfl⟩
 rw [R.out.1]
 have fin : ∀ u : Value, Kp (· = rb) w ((w1.drewN n).setCell ⟨rb, 1, none⟩ u) := fun u => Kp.setCell (p := ⟨rb, 1, none⟩) (K1.drewN n) (fun _ => rfl) u
 have FIN := hide fin
 clear fin
 rcases l with _ | ⟨c, t⟩
 ·simp only [nxt, List.headD_nil]
  go_wp2
  go_ret
  exact esR_none rfl (by omega) (by omega) (Kp.setCell (p := ⟨rb, 2, none⟩) (FIN.out _) (fun _ => rfl) _) ((h1.drewN n).at2 (k1 + 1) true (by omega) (fun e => by cases e))
 simp only [nxt, List.headD_cons]
 simp only [List.length_cons] at hlen
 by_cases e34 : c = 34
 ·subst e34
  go_wp2
  go_ret
  exact esR_some (x := 34) (k' := k1 + 1) (by simp [esc]) (by omega) (FIN.out _) ((h1.drewN n).at (k1 + 1) (by omega) (fun _ => by omega)) R.out.2
 by_cases e92 : c = 92
 ·subst e92
  go_wp2
  go_ret
  exact esR_some (x := 92) (k' := k1 + 1) (by simp [esc]) (by omega) (FIN.out _) ((h1.drewN n).at (k1 + 1) (by omega) (fun _ => by omega)) R.out.2
 by_cases e47 : c = 47
 ·subst e47
  go_wp2
  go_ret
  exact esR_some (x := 47) (k' := k1 + 1) (by simp [esc]) (by omega) (FIN.out _) ((h1.drewN n).at (k1 + 1) (by omega) (fun _ => by omega)) R.out.2
 by_cases e98 : c = 98
 ·subst e98
  go_wp2
  go_ret
  exact esR_some (x := 8) (k' := k1 + 1) (by simp [esc]) (by omega) (FIN.out _) ((h1.drewN n).at (k1 + 1) (by omega) (fun _ => by omega)) R.out.2
 by_cases e102 : c = 102
 ·subst e102
  go_wp2
  go_ret
  exact esR_some (x := 12) (k' := k1 + 1) (by simp [esc]) (by omega) (FIN.out _) ((h1.drewN n).at (k1 + 1) (by omega) (fun _ => by omega)) R.out.2
 by_cases e110 : c = 110
 ·subst e110
  go_wp2
  go_ret
  exact esR_some (x := 10) (k' := k1 + 1) (by simp [esc]) (by omega) (FIN.out _) ((h1.drewN n).at (k1 + 1) (by omega) (fun _ => by omega)) R.out.2
 by_cases e114 : c = 114
 ·subst e114
  go_wp2
  go_ret
  exact esR_some (x := 13) (k' := k1 + 1) (by simp [esc]) (by omega) (FIN.out _) ((h1.drewN n).at (k1 + 1) (by omega) (fun _ => by omega)) R.out.2
 by_cases e116 : c = 116
 ·subst e116
  go_wp2
  go_ret
  exact esR_some (x := 9) (k' := k1 + 1) (by simp [esc]) (by omega) (FIN.out _) ((h1.drewN n).at (k1 + 1) (by omega) (fun _ => by omega)) R.out.2
 have n34 := u8n e34
 have n92 := u8n e92
 have n47 := u8n e47
 have n98 := u8n e98
 have n102 := u8n e102
 have n110 := u8n e110
 have n114 := u8n e114
 have n116 := u8n e116
 have D := hide (And.intro e34 (And.intro e92 (And.intro e47 (And.intro e98 (And.intro e102 (And.intro e110 (And.intro e114 e116)))))))
 clear e34 e92 e47 e98 e102 e110 e114 e116
 simp only [UInt8.reduceToNat, Int.cast_ofNat_Int] at n34 n92 n47 n98 n102 n110 n114 n116
 by_cases e117 : c = 117
 ·subst e117
  clear n34 n92 n47 n98 n102 n110 n114 n116
  have S1 := (h1.drewN n).at (k1 + 1) (by omega) (fun _ => by omega)
  have he : esc (117 :: t) = escU t := by simp [esc]
  have E := hide he
  clear he D
  go_wp2_with fail
  refine (hex_c S1 (by omega)).mono ?_
  rintro e w3 ⟨rfl, K3, h3⟩
  have hX := hxs_lt (rest s (k1 + 1)) 4
  have h4 := hex4_hxs t
  have hlen4 := hxs_len t 4
  rw [R.out.2] at h3 hX ⊢
  simp only [List.tail_cons] at h3 hX ⊢
  have hdr : rest s (k1 + 1 + 4) = t.drop 4 := by rw [rest_add, R.out.2]; rfl
  generalize hxs t 4 = X at *
  obtain ⟨X, ok⟩ := X
  simp only [Bool.false_or] at h3 hX h4 hlen4 ⊢
  have K3' := (FIN.out _).trans K3
  have H4 := hide (And.intro h4 (And.intro hdr hlen4))
  clear h4 hdr hlen4 K3 S1
  by_cases hx : X < 55296 ∨ 57343 < X
  ·have done : EsR W w rb s (esc (117 :: t)) (.returned (.int .i32 (X : Int))) w3 := by
    cases ok with
    | true =>
     refine esR_some ?_ (by omega) K3' h3 H4.out.2.1
     rw [E.out, escU, H4.out.1]
     simp [hx]
    | false =>
     refine esR_none ?_ (by omega) (by omega) K3' h3
     rw [E.out, escU, H4.out.1]
     simp
   have DN := hide done
   clear done
   by_cases hx1 : (X : Int) < 55296
   ·go_wp2
    go_ret
    exact DN.out
   ·have hx2 : (57343 : Int) < X := by omega
    go_wp2
    go_ret
    exact DN.out
  ·have hx1 : ¬ ((X : Int) < 55296) := by omega
   have hx2 : ¬ ((57343 : Int) < X) := by omega
   have HX := hide hx
   clear hx
   go_wp2_with fail
   refine (rword_c h3 ⟨#[92, 117]⟩ (by decide)).mono ?_
   rintro e w4 ⟨rfl, K4, k4, bad4, h5, hk4, hw⟩
   have HW := hide hw
   clear hw
   go_wp2_with fail
   refine (hex_c h5 (by omega)).mono ?_
   rintro e w5 ⟨rfl, K5, h6⟩
   have hY := hxs_lt (rest s k4) 4
   have g4 := hex4_hxs (rest s k4)
   have hdr : rest s (k4 + 4) = (rest s k4).drop 4 := rest_add _ _ _
   generalize hxs (rest s k4) 4 = Y at *
   obtain ⟨Y, ok2⟩ := Y
   simp only at h6 hY g4 ⊢
   have G4 := hide (And.intro g4 hdr)
   clear g4 hdr
   have K5' := (K3'.trans K4).trans K5
   obtain ⟨d0, d1, d2, q1, q2, hb5⟩ := h6.facts
   have val : (65536 + ((X : Int) - 55296) * 1024 + (Y : Int)) - 56320 = ((65536 + (X - 55296) * 1024 + Y - 56320 : Nat) : Int) := by omega
   by_cases hc : 56319 < X ∨ Y < 56320 ∨ 57343 < Y
   ·have none' : esc (117 :: t) = none := by
     rw [E.out, escU, H4.out.1]
     cases ok with
     | false => rfl
     | true =>
      simp only [if_true]
      rw [if_neg HX.out]
      by_cases h7 : 56319 < X
      ·rw [if_pos h7]
      ·rw [if_neg h7]
       rcases HW.out with ⟨_, b4, r, p1, p2⟩ | ⟨b4, _, b5⟩
       ·have p3 := H4.out.2.1.symm.trans p1
        show (match t.drop 4 with | a :: b :: q => _ | _ => _) = none
        rw [p3]
        simp only [List.cons_append, List.nil_append, and_self, if_true]
        rw [p2] at G4
        rw [G4.out.1]
        cases ok2 with
        | false => rfl
        | true =>
         simp only [if_true]
         rw [if_neg (by omega)]
       ·rcases b5 with b5 | b5
        ·cases b5
        ·rw [H4.out.2.1] at b5
         show (match t.drop 4 with | a :: b :: q => _ | _ => _) = none
         split
         ·rename_i a b q hq
          rw [if_neg]
          rintro ⟨rfl, rfl⟩
          exact b5 q hq
         ·rfl
    have NN := hide none'
    clear none'
    have cs : (56319 : Int) < X ∨ (¬ (56319 : Int) < X ∧ (Y : Int) < 56320) ∨ (¬ (56319 : Int) < X ∧ ¬ (Y : Int) < 56320 ∧ (57343 : Int) < Y) := by omega
    clear hc
    rcases cs with b1 | ⟨b1, b2⟩ | ⟨b1, b2, b3⟩
    all_goals
     go_wp2
     go_ret
     exact esR_none NN.out (by omega) (by omega) (Kp.setCell (p := ⟨rb, 2, none⟩) K5' (fun _ => rfl) _) (h6.turn true (fun e => by cases e))
   ·have b1 : ¬ (56319 : Int) < X := by omega
    have b2 : ¬ (Y : Int) < 56320 := by omega
    have b3 : ¬ (57343 : Int) < Y := by omega
    have fini : EsR W w rb s (esc (117 :: t)) (.returned (.int .i32 ((65536 + (X - 55296) * 1024 + Y - 56320 : Nat) : Int))) w5 := by
     by_cases hgood : bad4 = false ∧ ok2 = true
     ·obtain ⟨rfl, rfl⟩ := hgood
      rcases HW.out with ⟨o1, _, r, p1, p2⟩ | ⟨b4, _⟩
      ·have o1' : ok = true := by simpa using o1
       subst o1'
       refine esR_some ?_ (by omega) K5' (by simpa using h6) rfl
       have p3 := H4.out.2.1.symm.trans p1
       rw [E.out, escU, H4.out.1]
       simp only [if_true]
       rw [if_neg HX.out, if_neg (by omega)]
       show (match t.drop 4 with | a :: b :: q => _ | _ => _) = _
       rw [p3]
       simp only [List.cons_append, List.nil_append, and_self, if_true]
       have g := G4.out.1
       rw [p2] at g
       rw [g]
       simp only [if_true]
       rw [if_pos (by omega), G4.out.2, p2]
       exact congrArg some (Prod.ext (by show _ = _; omega) rfl)
      ·cases b4
     ·have hb' : (bad4 || !ok2) = true := by
       cases bad4 <;> cases ok2 <;> simp_all
      rw [hb'] at h6
      refine esR_none ?_ (by omega) (by omega) K5' h6
      rw [E.out, escU, H4.out.1]
      cases ok with
      | false => rfl
      | true =>
       simp only [if_true]
       rw [if_neg HX.out, if_neg (by omega)]
       show (match t.drop 4 with | a :: b :: q => _ | _ => _) = none
       rcases HW.out with ⟨_, b4, r, p1, p2⟩ | ⟨b4, _, b5⟩
       ·have p3 := H4.out.2.1.symm.trans p1
        rw [p3]
        simp only [List.cons_append, List.nil_append, and_self, if_true]
        have g := G4.out.1
        rw [p2] at g
        rw [g]
        have : ok2 = false := by
         subst b4
         simpa using hb'
        subst this
        rfl
       ·rcases b5 with b5 | b5
        ·cases b5
        ·rw [H4.out.2.1] at b5
         split
         ·rename_i a b q hq
          rw [if_neg]
          rintro ⟨rfl, rfl⟩
          exact b5 q hq
         ·rfl
    have FI := hide fini
    clear fini hc
    go_wp2
    go_ret
    exact FI.out
 have n117 := u8n e117
 simp only [UInt8.reduceToNat, Int.cast_ofNat_Int] at n117
 have D2 := hide e117
 clear e117
 go_wp2
 go_ret
 refine esR_none ?_ (by omega) (by omega) (Kp.setCell (p := ⟨rb, 2, none⟩) (FIN.out _) (fun _ => rfl) _) ((h1.drewN n).at2 (k1 + 1) true (by omega) (fun e => by cases e))
 obtain ⟨d0, d1, d2, d3, d4, d5, d6, d7⟩ := D.out
 simp [esc, d0, d1, d2, d3, d4, d5, d6, d7, D2.out]
end Go.Proofs.YtocligpfmfmihaaGreatDoor
namespace Go.Proofs.YtocligpfmfmihaaGreatDoor
open Go Go.RowKit Go.Maps
variable {W w w' : World} {rb k : Nat} {s : ByteArray} {bad : Bool}
theorem ownsRow_zero {w : World} {B : Nat} {e : TypeId} {sz n : Nat} {v : Value} {xs : List Value} (h : w.ownsRow B e sz v n xs) : w.ownsRow 0 e sz v n xs := by
 obtain ⟨h1, h2⟩ := h
 refine ⟨h1, ?_⟩
 rcases h2 with h2 | ⟨g, cap, cur, rfl, hg, r⟩
 ·exact Or.inl h2
 ·exact Or.inr ⟨g, cap, cur, rfl, Nat.zero_le _, r⟩
theorem ArI.tree {lo vb : Nat} {x : List (J × Nat)} {L : Value} {G : Nat → Prop} (h : ArI lo vb x L G w) (hlo : lo ≤ vb) : RR w (fun c => lo ≤ c ∧ c < w.heap.size) (.arr (x.map (·.1))) vb :=
 .arr x L ⟨hlo, lt_heap h.blk⟩ h.blk (ownsRow_zero h.row) (fun k hk => h.row.lt k hk) (fun j c hm => (h.trs j c hm).frame (fun _ _ => rfl) (fun k hk => ⟨(h.old k hk).1, (h.old k hk).2.1⟩))
theorem own_at1 {a b : Option Nat} {n : Nat} (h : a = b ∨ a = some (n + 1)) : a = b ∨ ∃ q, n ≤ q ∧ a = some q := by
 rcases h with h | h
 ·exact Or.inl h
 ·exact Or.inr ⟨_, Nat.le_succ _, h⟩
theorem nxt_eq {l : Bs} {c : UInt8} (h : nxt l = c) (hc : c ≠ 0) : ∃ q, l = c :: q := by
 cases l with
 | nil => exact absurd h.symm hc
 | cons a l => exact ⟨l, by rw [← h]; rfl⟩
set_option maxRecDepth 20000 in
set_option maxHeartbeats 2000000 in
theorem rarr_bad (h : Rs W w rb s k bad) (D : Int) (hD : bad = true ∨ 6 < D) :
  Calls Tryz.prog 127 #[.pointer (some ⟨rb, 0, none⟩), .int .i64 D] w fun e w' => TrR W w rb s none e w' := by
 have h0 : ∀ o, Rs W (w.alloc o) rb s k bad := fun o => h.keep (S := fun _ => False) ((Kp.refl _ _).alloc _) (by simp) (by simp)
 go_enter Tryz.func127, Tryz.ntmps127
 go_wp2_with fail
 refine (rword_c (h0 _) ⟨#[91]⟩ (by decide)).mono ?_
 rintro e w1 ⟨rfl, K1, k1, bad1, h1, _, hw⟩
 have hbd : bad1 = true ∨ 6 < D := by
  rcases hw with ⟨b1, b2, _⟩ | ⟨b1, _⟩
  ·rcases hD with e | e
   ·rw [b1] at e; cases e
   ·exact Or.inr e
  ·exact Or.inl b1
 clear hw hD
 replace K1 := ((Kp.refl (· = rb) w).alloc _).trans K1
 go_wp2_with fail
 refine (rblanks_c h1).mono ?_
 rintro e w2 ⟨rfl, K2, k2, h2, _⟩
 replace K2 := K1.trans K2
 have h3 := h2.turn true (fun e => by cases e)
 have K3 : Kp (· = rb) w (w2.setCell ⟨rb, 2, none⟩ (.bool true)) := Kp.setCell (p := ⟨rb, 2, none⟩) K2 (fun _ => rfl) _
 obtain ⟨c0, c1, c2, f1, f2, hb⟩ := h2.facts
 obtain ⟨d0, d1, d2, g1, g2, hb'⟩ := h3.facts
 cases bad1 with
 | true =>
  go_wp2_with fail
  refine (word_bad h3 ⟨#[93]⟩).mono ?_
  rintro e w4 ⟨rfl, K4, h4⟩
  go_wp2
  go_ret
  exact trR_none rfl (K3.trans K4) h4
 | false =>
  have hD : 6 < D := hbd.resolve_left (by simp)
  go_wp2_with fail
  refine (word_bad h3 ⟨#[93]⟩).mono ?_
  rintro e w4 ⟨rfl, K4, h4⟩
  go_wp2
  go_ret
  exact trR_none rfl (K3.trans K4) h4
set_option maxRecDepth 20000 in
set_option maxHeartbeats 4000000 in
theorem rarr_c (D : Nat) (hD : D ≤ 6) (hv : VlC W D) (h : Rs W w rb s k false) (t : Bs) (hl : rest s k = 91 :: t) :
  Calls Tryz.prog 127 #[.pointer (some ⟨rb, 0, none⟩), .int .i64 (D : Int)] w fun e w' =>
   TrR W w rb s ((pSev (pEl (pVal true (6 - D))) 93 [] t).map fun x => (.arr x.1, x.2)) e w' := by
 have hsz := h.sz
 have hrb := (h.facts).2.2.2.2.2
 have hWlo := h.old.size
 obtain ⟨i0, hi, hz0, hz1, hz2⟩ := info_parts infoPtr
 have hD' : decide (6 < (D : Int)) = false := by simp; omega
 have h0 : ∀ o, Rs W (w.alloc o) rb s k false := fun o => h.keep (S := fun _ => False) ((Kp.refl _ _).alloc _) (by simp) (by simp)
 have HL := hide hl
 clear hl
 go_enter Tryz.func127, Tryz.ntmps127
 go_wp2_with fail
 have I0 := heap_alloc_new w (vCells 91 0 [] (.slice none 0 0) (.slice none 0 0))
 refine (word_yes (h0 _) ⟨#[91]⟩ (by decide) t HL.out).mono ?_
 rintro e w1 ⟨rfl, K1, k1, h1, r1⟩
 have I1 : w1.heap[w.heap.size]? = some (vCells 91 0 [] (.slice none 0 0) (.slice none 0 0)) := (K1.block _ (by simp) (by omega)).trans I0
 replace K1 := ((Kp.refl (· = rb) w).alloc _).trans K1
 have R1 := hide r1
 clear r1 I0 h0 HL
 go_wp2_with fail
 refine (rblanks_c h1).mono ?_
 rintro e w2 ⟨rfl, K2, k2, h2, r2⟩
 have I2 : w2.heap[w.heap.size]? = some (vCells 91 0 [] (.slice none 0 0) (.slice none 0 0)) := (K2.block _ (lt_heap I1) (by omega)).trans I1
 replace K2 := K1.trans K2
 have R2 : Hid (rest s k2 = sk t) := by rw [R1.out] at r2; exact r2
 clear r2 I1 K1 h1 R1
 have h3 := h2.turn false (fun e => h2.good rfl)
 have K3 : Kp (· = rb) w (w2.setCell ⟨rb, 2, none⟩ (.bool false)) := Kp.setCell (p := ⟨rb, 2, none⟩) K2 (fun _ => rfl) _
 have I3 : (w2.setCell ⟨rb, 2, none⟩ (.bool false)).heap[w.heap.size]? = some (vCells 91 0 [] (.slice none 0 0) (.slice none 0 0)) := (heap_set_other (by show w.heap.size ≠ rb; omega)).trans I2
 obtain ⟨c0, c1, c2, f1, f2, hb⟩ := h2.facts
 obtain ⟨d0, d1, d2, g1, g2, hb'⟩ := h3.facts
 go_wp2_with fail
 refine (peek_c h3).mono ?_
 rintro e w4 ⟨rfl, m, rfl⟩
 rw [R2.out]
 have A3 : ArI w.heap.size w.heap.size [] (.slice none 0 0) (fun _ => False) ((w2.setCell ⟨rb, 2, none⟩ (.bool false)).drewN m) :=
  ⟨I3, World.ownsRow_nil _ _ _ _, fun _ _ h => (by cases h), fun _ h => False.elim h, fun k hk => (by simp [Value.ownBlock] at hk)⟩
 have hlo : w.heap.size ≤ w.heap.size := Nat.le_refl _
 by_cases e93 : nxt (sk t) = 93
 ·obtain ⟨q, hq⟩ := nxt_eq e93 (by decide)
  rw [e93]
  have HQ := hide hq
  clear e93 hq c0 c1 c2 f1 f2 hb
  go_wp2_with fail
  refine (word_yes (h3.drewN m) ⟨#[93]⟩ (by decide) q (by rw [R2.out]; exact HQ.out)).mono ?_
  rintro e w5 ⟨rfl, K5, k5, h5, r5⟩
  have A5 := A3.kp K5 (fun k _ _ => by omega) hlo
  have R5 := hide r5
  clear r5
  go_wp2
  go_ret
  refine trR_some (r := q) ?_ ((K3.drewN m).trans K5) h5 R5.out (A5.tree hlo)
  rw [pSev, if_pos (by rw [HQ.out]; rfl), HQ.out]
  rfl
 ·have n93 := u8n e93
  simp only [UInt8.reduceToNat, Int.cast_ofNat_Int] at n93
  have hT : pSev (pEl (pVal true (6 - D))) 93 [] t = match pEl (pVal true (6 - D)) [] (sk t) with | some (b, r) => pMore (pEl (pVal true (6 - D))) 93 ((sk t).length + 1) b r | none => none := by
   have hpe : pEl (pVal true (6 - D)) [] (sk t) = pEl (pVal true (6 - D)) [] t := by simp only [pEl, pVal_sk]
   have hshr := pEl_shr (pv := pVal true (6 - D)) (pVal_le (6 - D))
   rw [pSev, if_neg, ← hpe]
   ·cases hp : pEl (pVal true (6 - D)) [] (sk t) with
    | none => rfl
    | some z =>
     obtain ⟨b, r⟩ := z
     have := hshr _ _ _ _ hp
     exact pMore_fuel hshr _ _ _ _ (by omega) (by omega)
   ·intro e
    apply e93
    cases hs : sk t with
    | nil => rw [hs] at e; cases e
    | cons a l => rw [hs] at e; simp at e; rw [e]; rfl
  generalize hTT : pSev (pEl (pVal true (6 - D))) 93 [] t = T at *
  have HT := hide (And.intro hT hTT)
  have hlen := rest_len s k2
  rw [R2.out] at hlen
  clear hT hTT e93 c0 c1 c2 f1 f2 hb
  have h4 := h3.drewN m
  have K4 := K3.drewN m
  clear h3 K3 I3 I2 d0 d1 d2 g1 g2 hb' h2 K2
  go_wp2_with fail
  generalize (w2.setCell ⟨rb, 2, none⟩ (.bool false)).drewN m = w4 at *
  go_loopg [] ((rest s k2).length + 1) (fun g wr => ∃ k' bad', g = (if bad' then 0 else (rest s k').length + 1) ∧ Rs W wr rb s k' bad' ∧ Kp (· = rb) w wr ∧ (bad' = true → T = none) ∧
   (bad' = false → ∃ x L G n, ArI w.heap.size w.heap.size x L G wr ∧ x.length + (rest s k').length ≤ 600 ∧ (rest s k').length < n ∧ T = match pEl (pVal true (6 - D)) (x.map (·.1)) (rest s k') with | some (b, r) => pMore (pEl (pVal true (6 - D))) 93 n b r | none => none))
  case atStart => exact ⟨k2, false, rfl, h4, K4, fun e => (by cases e), fun _ => ⟨[], _, _, (sk t).length + 1, A3, by rw [R2.out]; simp; omega, by rw [R2.out]; omega, by rw [R2.out]; exact HT.out.1⟩⟩
  case round =>
   clear h4 K4 A3 n93
   obtain ⟨k', bad', hg, h1, K1, p1, p2⟩ := hrel
   obtain ⟨c0, c1, c2, f1, f2, hb⟩ := h1.facts
   cases bad' with
   | true =>
    have P := hide (p1 rfl)
    clear p1 p2
    go_wp2_with fail
    refine (word_bad h1 ⟨#[93]⟩).mono ?_
    rintro e w5 ⟨rfl, K5, h5⟩
    go_wp2
    go_ret
    exact trR_none (by rw [HT.out.2, P.out]; rfl) (K1.trans K5) h5
   | false =>
    obtain ⟨x, L, G, n, A1, hx, hn, hC⟩ := p2 rfl
    have C := hide (And.intro hg hC)
    clear p1 p2 hg hC
    go_wp2_with fail
    refine (hv rb s k' wr h1).mono ?_
    rintro e w5 ⟨b, rfl, K5, k5, bad5, h5, ho⟩
    have A5 := A1.kp K5 (fun k _ _ => by omega) hlo
    have HO := hide ho
    clear ho
    obtain ⟨v0, v1, v2, v3, v4, z0, z1, z2, z3, z4, hvb⟩ := vfacts A5.blk
    have hsz5 := K5.size
    have hsz1 := K1.size
    go_wp2_with (at_builtin; refine wpList_append_own_at _ rfl _ _ 78 rfl w.heap.size 66 i0 (.pointer none) 1 8 Tryz.underlying78 hi hz0 hz1 hz2 rfl (by decide) _ _ _ rfl (A5.row.alloc _) ⟨w5.heap.size, 0, none⟩ 1 1 [ptr b] rfl rfl ?c1 ?c2 ?c3 ?c4 ?c5 ?_)
    case c1 => exact cell_one_new _ _ _
    case c2 => intro u hu; simp at hu; subst hu; rfl
    case c3 => unfold maxLen; omega
    case c4 => omega
    case c5 => simp; omega
    intro v' w6 y1 y2 _ y3
    obtain ⟨g', cap', rfl⟩ := own_shape y1
    have B1 : Kp (fun k => L.ownBlock = some k) w5 w6 := ((Kp.refl _ _).alloc _).grown y2 (fun k hk _ => hk)
    have I6 : w6.heap[w.heap.size]? = some (vCells 91 0 [] (.slice none 0 0) L) := (B1.block _ hvb (fun e => (A5.own _ e).2 rfl)).trans A5.blk
    have hy3 := own_at1 y3
    have S6 : Rs W w6 rb s k5 bad5 := h5.keep B1 (fun i hi => by have := (A5.row.lt i hi).1; omega) (fun hi => by have := (A5.row.lt rb hi).1; omega)
    have S7 : Rs W (w6.setCell ⟨w.heap.size, 4, none⟩ (.slice (some ⟨g', 0, none⟩) (x.length + 1) cap')) rb s k5 bad5 :=
     S6.keep (S := fun k => k = w.heap.size) (Kp.setCell (p := ⟨w.heap.size, 4, none⟩) (Kp.refl (fun k => k = w.heap.size) w6) (fun _ => rfl) _) (fun i hi => by omega) (by omega)
    have K7 : Kp (· = rb) w (w6.setCell ⟨w.heap.size, 4, none⟩ (.slice (some ⟨g', 0, none⟩) (x.length + 1) cap')) :=
     Kp.setCell (p := ⟨w.heap.size, 4, none⟩) ((K1.trans K5).and B1 (fun i hi e => by have := (A5.row.lt i e).1; omega)) (fun hlt => by exact absurd hlt (by show ¬ w.heap.size < _; omega)) _
    have more : ∀ j, RR w5 (fun c => wr.heap.size ≤ c ∧ c < w5.heap.size) j b → ArI w.heap.size w.heap.size (x ++ [(j, b)]) (.slice (some ⟨g', 0, none⟩) (x.length + 1) cap') (fun k => G k ∨ (wr.heap.size ≤ k ∧ k < w5.heap.size)) (w6.setCell ⟨w.heap.size, 4, none⟩ (.slice (some ⟨g', 0, none⟩) (x.length + 1) cap')) :=
     fun j ht => A5.more (fun k hk => (A1.old k hk).2.1) (lt_heap A1.blk) hsz1 (fun k hk => (A1.row.lt k hk).2) ht B1 I6 y1 hy3 hsz5
    have tn : bad5 = true → T = none := by
     intro e
     rw [C.out.2]
     cases hp : pVal true (6 - D) (rest s k') with
     | none => simp [pEl, hp]
     | some z =>
      have := HO.out
      rw [hp] at this
      rw [e] at this
      cases this.1
    have ts : bad5 = false → ∃ j r, rest s k5 = sk r ∧ RR w5 (fun c => wr.heap.size ≤ c ∧ c < w5.heap.size) j b ∧ r.length ≤ (rest s k').length ∧ T = pMore (pEl (pVal true (6 - D))) 93 n (x.map (·.1) ++ [j]) r := by
     intro e
     cases hp : pVal true (6 - D) (rest s k') with
     | none =>
      have := HO.out
      rw [hp, e] at this
      cases this
     | some z =>
      obtain ⟨j, r⟩ := z
      have := HO.out
      rw [hp] at this
      refine ⟨j, r, this.2.1, this.2.2, pVal_le _ _ _ _ hp, ?_⟩
      rw [C.out.2]
      simp [pEl, hp]
    have Z := hide (And.intro more (And.intro tn ts))
    clear more tn ts hy3 B1 y1 y2 y3 v0 v1 v2 v3 v4 z0 z1 z2 z3 z4 hvb c0 c1 c2 f1 f2 hb S6
    obtain ⟨v0, v1, v2, v3, v4, z0, z1, z2, z3, z4, hvb⟩ := vfacts I6
    go_wp2_with fail
    clear v0 v1 v2 v3 v4 z0 z1 z2 z3 z4 hvb
    refine (peek_c S7).mono ?_
    rintro e w8 ⟨rfl, m8, rfl⟩
    have S8 := S7.drewN m8
    have K8 := K7.drewN m8
    have more8 : ∀ j, RR w5 (fun c => wr.heap.size ≤ c ∧ c < w5.heap.size) j b → ArI w.heap.size w.heap.size (x ++ [(j, b)]) (.slice (some ⟨g', 0, none⟩) (x.length + 1) cap') (fun k => G k ∨ (wr.heap.size ≤ k ∧ k < w5.heap.size)) ((w6.setCell ⟨w.heap.size, 4, none⟩ (.slice (some ⟨g', 0, none⟩) (x.length + 1) cap')).drewN m8) :=
     fun j ht => (Z.out.1 j ht).kp ((Kp.refl (fun _ => False) _).drewN m8) (by simp) hlo
    have Y := hide (And.intro more8 Z.out.2)
    clear more8 Z S7 K7 I6
    generalize ((w6.setCell ⟨w.heap.size, 4, none⟩ (.slice (some ⟨g', 0, none⟩) (x.length + 1) cap')).drewN m8) = w8 at *
    by_cases e44 : nxt (rest s k5) = 44
    ·obtain ⟨q, hq⟩ := nxt_eq e44 (by decide)
     rw [e44]
     have HQ := hide hq
     clear e44 hq
     go_wp2_with fail
     refine (rword_c S8 ⟨#[44]⟩ (by decide)).mono ?_
     rintro e w9 ⟨rfl, K9, k9, bad9, h9, _, hw⟩
     have HW := hide hw
     clear hw
     go_wp2
     cases bad9 with
     | true =>
      go_roundg 0
      case measure => rw [C.out.1]; simp
      case rel =>
       refine ⟨k9, true, rfl, h9, K8.trans K9, fun _ => ?_, fun e => (by cases e)⟩
       rcases HW.out with ⟨_, b2, _⟩ | ⟨_, _, b5⟩
       ·cases b2
       ·rcases b5 with b5 | b5
        ·exact Y.out.2.1 b5
        ·exact absurd HQ.out (b5 q)
     | false =>
      rcases HW.out with ⟨b1, _, r', p1, p2⟩ | ⟨b5, _⟩
      ·obtain ⟨j, r, t1, t2, t3, t4⟩ := Y.out.2.2 b1
       have hr' : sk r = 44 :: r' := by rw [← t1]; exact p1
       have hsk := sk_len r
       rw [hr'] at hsk
       simp only [List.length_cons] at hsk
       go_roundg ((rest s k9).length + 1)
       case measure => rw [C.out.1, p2]; simp; omega
       case rel =>
        refine ⟨k9, false, by simp, h9, K8.trans K9, fun e => (by cases e), fun _ => ⟨x ++ [(j, b)], _, _, n - 1, (Y.out.1 j t2).kp K9 (fun k _ _ => by omega) hlo, ?_, ?_, ?_⟩⟩
        ·rw [p2, List.length_append]; simp; omega
        ·rw [p2]; omega
        ·obtain ⟨n', rfl⟩ : ∃ n', n = n' + 1 := ⟨n - 1, by omega⟩
         rw [t4, p2, pMore, hr']
         simp
         cases pEl (pVal true (6 - D)) (x.map (·.1) ++ [j]) r' <;> rfl
      ·cases b5
    ·have n44 := u8n e44
     simp only [UInt8.reduceToNat, Int.cast_ofNat_Int] at n44
     have n44' : (((nxt (rest s k5)).toNat : Int) != 44) = true := by simp only [bne, n44]; rfl
     have N44 := hide e44
     clear e44
     go_wp2_with fail
     refine (rword_c S8 ⟨#[93]⟩ (by decide)).mono ?_
     rintro e w9 ⟨rfl, K9, k9, bad9, h9, _, hw⟩
     have HW := hide hw
     clear hw
     go_wp2
     go_ret
     cases bad9 with
     | true =>
      refine trR_none ?_ (K8.trans K9) h9
      rw [HT.out.2]
      rcases HW.out with ⟨_, b2, _⟩ | ⟨_, _, b5⟩
      ·cases b2
      ·cases hb5 : bad5 with
       | true => rw [Y.out.2.1 hb5]; rfl
       | false =>
        rcases b5 with b5 | b5
        ·rw [hb5] at b5; cases b5
        ·obtain ⟨j, r, t1, t2, t3, t4⟩ := Y.out.2.2 hb5
         obtain ⟨n', rfl⟩ : ∃ n', n = n' + 1 := ⟨n - 1, by omega⟩
         rw [t4, pMore]
         have h44 := N44.out
         rw [t1] at h44 b5
         cases hs : sk r with
         | nil => rfl
         | cons a l =>
          rw [hs] at h44 b5
          have h1 : a ≠ 44 := h44
          have h2 : a ≠ 93 := by rintro rfl; exact b5 l rfl
          simp [h1, h2]
     | false =>
      rcases HW.out with ⟨b1, _, r', p1, p2⟩ | ⟨b5, _⟩
      ·obtain ⟨j, r, t1, t2, t3, t4⟩ := Y.out.2.2 b1
       have hr' : sk r = 93 :: r' := by rw [← t1]; exact p1
       obtain ⟨n', rfl⟩ : ∃ n', n = n' + 1 := ⟨n - 1, by omega⟩
       have tr := ((Y.out.1 j t2).kp K9 (fun k _ _ => by omega) hlo).tree hlo
       refine trR_some ?_ (K8.trans K9) h9 p2 tr
       rw [HT.out.2, t4, pMore, hr']
       simp
      ·cases b5
end Go.Proofs.YtocligpfmfmihaaGreatDoor

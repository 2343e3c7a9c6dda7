import Derived.Test.YtocligpfmfmihaaGreatDoorRef4G
import Derived.Laws.Cover4
import Derived.Test.YtocligpfmfmihaaGreatDoorRef17G
namespace Go.Proofs.YtocligpfmfmihaaGreatDoor
open Go Go.RowKit
variable {W w w' : World} {rb k : Nat} {s : ByteArray} {bad : Bool}
theorem cat_str (o : Bs) (b : ByteArray) : (⟨o.toArray⟩ : ByteArray) ++ b = ⟨(o ++ b.data.toList).toArray⟩ := by
 apply ByteArray.ext
 simp
theorem mk_size (o : Bs) : (⟨o.toArray⟩ : ByteArray).size = o.length := by
 show o.toArray.size = o.length
 simp
def TxR (W w : World) (rb : Nat) (s : ByteArray) (o : Option (Bs × Bs)) (e : Ending) (w' : World) : Prop :=
 ∃ v : Bs, e = .returned (.string ⟨v.toArray⟩) ∧ v.length ≤ 2400 ∧ Kp (· = rb) w w' ∧ ∃ k' bad', Rs W w' rb s k' bad' ∧ match o with | some (x, r) => bad' = false ∧ v = x ∧ rest s k' = r | none => bad' = true
theorem txR_some {o : Option (Bs × Bs)} {k' : Nat} {x r : Bs} (ho : o = some (x, r)) (hl : x.length ≤ 2400) (hk : Kp (· = rb) w w') (hs : Rs W w' rb s k' false) (hr : rest s k' = r) : TxR W w rb s o (.returned (.string ⟨x.toArray⟩)) w' := by
 subst ho
 exact ⟨_, rfl, hl, hk, k', false, hs, rfl, rfl, hr⟩
theorem txR_none {o : Option (Bs × Bs)} {k' : Nat} (ho : o = none) (hk : Kp (· = rb) w w') (hs : Rs W w' rb s k' true) : TxR W w rb s o (.returned (.string ⟨#[]⟩)) w' := by
 subst ho
 exact ⟨[], rfl, by simp, hk, k', true, hs, rfl⟩
set_option maxRecDepth 20000 in
set_option maxHeartbeats 1000000 in
theorem rtext_bad (h : Rs W w rb s k bad) (hl : bad = false → ∀ r, rest s k ≠ 34 :: r) :
  Calls Tryz.prog 126 #[.pointer (some ⟨rb, 0, none⟩)] w fun e w' => e = .returned (.string ⟨#[]⟩) ∧ Kp (· = rb) w w' ∧ Rs W w' rb s k true := by
 have HL := hide hl
 clear hl
 go_enter Tryz.func126, Tryz.ntmps126
 go_wp2_with fail
 refine (rword_c h ⟨#[34]⟩ (by decide)).mono ?_
 rintro e w1 ⟨rfl, K1, k1, bad1, h1, _, hw⟩
 have hw' : bad1 = true ∧ k1 = k := by
  rcases hw with ⟨b1, b2, r, p1, p2⟩ | ⟨b1, b2, _⟩
  ·exact absurd p1 (HL.out b1 r)
  ·exact ⟨b1, b2⟩
 obtain ⟨rfl, rfl⟩ := hw'
 clear hw
 obtain ⟨c0, c1, c2, f1, f2, hb⟩ := h1.facts
 go_wp2_with fail
 go_loopg [] 1 (fun g wr => wr = w1 ∧ g = 1)
 case atStart => exact ⟨rfl, rfl⟩
 case round =>
  obtain ⟨rfl, rfl⟩ := hrel
  go_wp2
  go_ret
  exact ⟨rfl, K1, h1⟩
theorem pStr_u {l t : Bs} {c : UInt8} (hl : l = c :: t) (h34 : c ≠ 34) {o r : Bs} (hch : ch true c t = some (o, r)) : pStr true l = (pStr true r).map fun x => (o ++ x.1, x.2) := by
 subst hl
 rw [pStr_cons, if_neg h34, hch]
theorem pStr_un {l t : Bs} {c : UInt8} (hl : l = c :: t) (h34 : c ≠ 34) (hch : ch true c t = none) : pStr true l = none := by
 subst hl
 rw [pStr_cons, if_neg h34, hch]
theorem map_map_app (o p : Bs) (x : Option (Bs × Bs)) : (x.map fun x => (p ++ x.1, x.2)).map (fun x => (o ++ x.1, x.2)) = x.map fun x => ((o ++ p) ++ x.1, x.2) := by
 cases x <;> simp
set_option maxRecDepth 20000 in
set_option maxHeartbeats 2000000 in
theorem rtext_c (h : Rs W w rb s k false) (t : Bs) (hl : rest s k = 34 :: t) :
  Calls Tryz.prog 126 #[.pointer (some ⟨rb, 0, none⟩)] w fun e w' => TxR W w rb s (pStr true t) e w' := by
 have hsz := h.sz
 have hG := h.gl
 go_enter Tryz.func126, Tryz.ntmps126
 go_wp2_with fail
 refine (word_yes h ⟨#[34]⟩ (by decide) t hl).mono ?_
 rintro e w1 ⟨rfl, K1, k1, h1, r1⟩
 clear hl h
 go_wp2_with fail
 go_loopg [3] (s.size - k1 + 1) (fun g a wr => ∃ (k' : Nat) (bad' : Bool) (o : Bs), g = (if bad' then 0 else s.size - k' + 1) ∧ a = .string ⟨o.toArray⟩ ∧ Rs W wr rb s k' bad' ∧ Kp (· = rb) w wr ∧
  (bad' = false → o.length ≤ 4 * k' ∧ pStr true t = (pStr true (rest s k')).map fun x => (o ++ x.1, x.2)) ∧ (bad' = true → pStr true t = none))
 case atStart => exact ⟨k1, false, [], rfl, rfl, h1, K1, fun _ => ⟨by simp, by rw [r1]; cases pStr true t <;> simp⟩, fun e => by cases e⟩
 case round =>
  clear h1 K1 r1
  obtain ⟨k', bad', o, hg, rfl, h1, K1, p1, p2⟩ := hrel
  obtain ⟨c0, c1, c2, f1, f2, hb⟩ := h1.facts
  cases bad' with
  | true =>
   have P := hide (p2 rfl)
   clear p1 p2
   go_wp2
   go_ret
   exact txR_none P.out K1 h1
  | false =>
   have P := hide (And.intro (p1 rfl) hg)
   have hol := (p1 rfl).1
   have hgd := h1.good rfl
   clear p1 p2 hg
   generalize hc : rest s k' = l
   rcases l with _ | ⟨c, q⟩
   ·have hk' := rest_end hc hgd
    have HC := hide hc
    clear hc
    have hge : decide ((s.size : Int) ≤ (k' : Int)) = true := by simp; omega
    go_wp2_with fail
    refine (peek_c h1).mono ?_
    rintro e w2 ⟨rfl, m, rfl⟩
    rw [HC.out]
    simp only [nxt, List.headD_nil]
    go_wp2
    go_quiet (fail)
    go_wp2
    go_roundg 0
    case measure => rw [P.out.2]; simp
    case rel =>
     refine ⟨k', true, o, rfl, rfl, (h1.drewN _).turn true (fun e => by cases e), Kp.setCell (p := ⟨rb, 2, none⟩) (K1.drewN _) (fun _ => rfl) _, fun e => (by cases e), fun _ => ?_⟩
     rw [P.out.1.2, HC.out, pStr_nil]
     rfl
   ·obtain ⟨hk', hnx, hre, hat⟩ := nxt_cons hc
    have hck := hat hk'
    have hlen := rest_len s k'
    rw [hc] at hlen
    have HC := hide (And.intro hc (And.intro hnx hre))
    clear hc hnx hre hat hck
    have hge : decide ((s.size : Int) ≤ (k' : Int)) = false := by simp; omega
    have hcb := c.toNat_lt
    go_wp2_with fail
    refine (peek_c h1).mono ?_
    rintro e w2 ⟨rfl, m, rfl⟩
    rw [HC.out.2.1]
    by_cases h32 : (c.toNat : Int) < 32
    ·have h32' : decide ((c.toNat : Int) < 32) = true := by simpa using h32
     go_wp2
     go_quiet (fail)
     go_wp2
     go_roundg 0
     case measure => rw [P.out.2]; simp
     case rel =>
      refine ⟨k', true, o, rfl, rfl, (h1.drewN _).turn true (fun e => by cases e), Kp.setCell (p := ⟨rb, 2, none⟩) (K1.drewN _) (fun _ => rfl) _, fun e => (by cases e), fun _ => ?_⟩
      rw [P.out.1.2, pStr_un HC.out.1 (by rintro rfl; revert h32; decide)]
      ·rfl
      ·unfold ch
       rw [if_pos]
       rw [UInt8.lt_iff_toNat_lt]
       show c.toNat < 32
       omega
    ·have h32' : decide ((c.toNat : Int) < 32) = false := by simpa using h32
     have n32 : ¬ c < 32 := by
      rw [UInt8.lt_iff_toNat_lt]
      show ¬ c.toNat < 32
      omega
     by_cases h34 : c = 34
     ·subst h34
      go_wp2
      go_quiet (fail)
      go_wp2
      go_ret
      refine txR_some (r := q) ?_ (by omega) (Kp.setCell (p := ⟨rb, 1, none⟩) (K1.drewN _) (fun _ => rfl) _) ((h1.drewN _).at (k' + 1) (by omega) (fun _ => by omega)) HC.out.2.2
      rw [P.out.1.2, HC.out.1, pStr_cons]
      simp
     have n34 := u8n h34
     simp only [UInt8.reduceToNat, Int.cast_ofNat_Int] at n34
     have N34 := hide h34
     clear h34
     by_cases h92 : c = 92
     ·subst h92
      clear n34 h32' h32
      go_wp2_with fail
      go_quiet (fail)
      go_wp2_with fail
      refine (resc_c (h1.drewN _) q HC.out.1).mono ?_
      rintro e w3 ⟨v, rfl, hv0, hv1, K3, k3, bad3, h3, ho⟩
      have HO := hide ho
      clear ho
      have hen := encode_size_le v
      have hos := mk_size o
      have hlo : (Utf8.encode v).data.toList.length ≤ 4 := by rw [Array.length_toList]; exact hen
      go_wp2_with fail
      cases bad3 with
      | true =>
       go_roundg 0
       case measure => rw [P.out.2]; simp
       case rel =>
        refine ⟨k3, true, o ++ (Utf8.encode v).data.toList, rfl, by rw [cat_str], h3, (K1.drewN _).trans K3, fun e => (by cases e), fun _ => ?_⟩
        cases he : esc q with
        | some x =>
         have := HO.out
         rw [he] at this
         cases this.1
        | none =>
         rw [P.out.1.2, pStr_un HC.out.1 (by decide) (by simp [ch, he])]
         rfl
      | false =>
       cases he : esc q with
       | none =>
        have := HO.out
        rw [he] at this
        cases this
       | some x =>
        obtain ⟨x, r⟩ := x
        have ho := HO.out
        rw [he] at ho
        obtain ⟨_, rfl, hr3⟩ := ho
        have hl3 := rest_len s k3
        have hl4 := esc_len he
        rw [hr3] at hl3
        have hg3 := h3.good rfl
        simp only [List.length_cons] at hlen
        go_roundg (s.size - k3 + 1)
        case measure => rw [P.out.2]; simp; omega
        case rel =>
         refine ⟨k3, false, o ++ (Utf8.encode (x : Int)).data.toList, by simp, by rw [cat_str], h3, (K1.drewN _).trans K3, fun _ => ⟨?_, ?_⟩, fun e => (by cases e)⟩
         ·rw [List.length_append]
          omega
         ·rw [P.out.1.2, pStr_u HC.out.1 (by decide) (o := (Utf8.encode (x : Int)).data.toList) (r := r) (by simp [ch, he]), map_map_app, hr3]
     have n92 := u8n h92
     simp only [UInt8.reduceToNat, Int.cast_ofNat_Int] at n92
     have N92 := hide h92
     clear h92
     have TB : Lib.Utf8Tabs 4 5 wr := hG.tabs' h1.old
     have hne : c :: q ≠ [] := by simp
     have hw1 := Lib.decodeL_width (c :: q)
     have hw2 := Lib.decodeL_le (c :: q) hne
     have hdt := dec_tail s k' hk'
     rw [HC.out.1] at hdt
     have hch : ch true c q = if (Lib.decodeL (c :: q)).1 = 65533 ∧ (Lib.decodeL (c :: q)).2 = 1 then none else some ((c :: q).take (Lib.decodeL (c :: q)).2, (c :: q).drop (Lib.decodeL (c :: q)).2) := by
      unfold ch
      rw [if_neg n32, if_neg N92.out]
      rfl
     generalize Lib.decodeL (c :: q) = dd at *
     obtain ⟨rr, n⟩ := dd
     simp only at hw1 hw2 hch
     have HD := hide (And.intro hdt hch)
     clear hdt hch hne h32
     simp only [List.length_cons] at hlen hw2
     go_wp2_with fail
     go_quiet (fail)
     go_wp2_with fail
     go_region_law (refine step_call rfl 131 #[.string (s.extract k' s.size)] (by go_simp) ?_; refine (Tryz.utf8_DecodeRuneInString _ _ (by exact TB)).mono ?_; rintro e w3 ⟨rfl, b1⟩; rw [HD.out.1])
     all_goals
      have KW : Kp (fun _ => False) wr w3 := ((Kp.refl _ _).drewN (m + nq + 1)).trans ⟨b1.os, b1.tape, b1.output, b1.size, fun i hi _ => b1.block i hi⟩
      have h3 : Rs W w3 rb s k' false := h1.keep KW (by simp) (by simp)
      have K3 : Kp (· = rb) w w3 := K1.trans (KW.mono (fun _ _ h => h.elim))
      have hos := mk_size o
      have hes : (s.extract k' (k' + n)).size = n := by
       have := ext_len (s := s) (a := k') (b := k' + n) (by omega)
       rw [Array.length_toList] at this
       exact this.trans (by omega)
      have hto : (s.extract k' (k' + n)).data.toList = (c :: q).take n := by rw [ext_rest, HC.out.1]
      have hre : rest s (k' + n) = (c :: q).drop n := by rw [rest_add, HC.out.1]
      have TT := hide (And.intro hto hre)
      clear hto hre b1 KW TB
      clear c0 c1 c2 f1 f2 hb h1 K1
      by_cases hbad : rr = 65533 ∧ n = 1
      ·obtain ⟨rfl, rfl⟩ := hbad
       have hz : pStr true t = none := by
        rw [P.out.1.2, pStr_un HC.out.1 N34.out (by rw [HD.out.2]; simp)]
        rfl
       have HZ := hide hz
       clear hz
       have h4 := h3.turn true (fun e => by cases e)
       have K4 : Kp (· = rb) w (w3.setCell ⟨rb, 2, none⟩ (.bool true)) := Kp.setCell (p := ⟨rb, 2, none⟩) K3 (fun _ => rfl) _
       obtain ⟨c0, c1, c2, f1, f2, hb⟩ := h3.facts
       go_wp2_with fail
       clear c0 c1 c2 f1 f2 hb h3 K3
       generalize (w3.setCell ⟨rb, 2, none⟩ (.bool true)) = w4 at *
       obtain ⟨c0, c1, c2, f1, f2, hb⟩ := h4.facts
       go_quiet (fail)
       go_wp2
       go_roundg 0
       case measure => rw [P.out.2]; simp
       case rel =>
        exact ⟨k' + 1, true, o ++ (s.extract k' (k' + 1)).data.toList, rfl, by rw [cat_str], (h4.drewN _).at (k' + 1) (by omega) (fun e => by cases e), Kp.setCell (p := ⟨rb, 1, none⟩) (K4.drewN _) (fun _ => rfl) _, fun e => (by cases e), fun _ => HZ.out⟩
      ·have hz : pStr true t = (pStr true (rest s (k' + n))).map fun x => ((o ++ (s.extract k' (k' + n)).data.toList) ++ x.1, x.2) := by
        rw [P.out.1.2, pStr_u HC.out.1 N34.out (by rw [HD.out.2, if_neg hbad]), map_map_app, TT.out.1, TT.out.2]
       have hlt : (o ++ (s.extract k' (k' + n)).data.toList).length ≤ 4 * (k' + n) := by
        rw [List.length_append, TT.out.1, List.length_take]
        omega
       have HZ := hide (And.intro hz hlt)
       clear hz hlt
       obtain ⟨c0, c1, c2, f1, f2, hb⟩ := h3.facts
       have hr12 : ((rr : Int) == 65533) = false ∨ (((rr : Int) == 65533) = true ∧ ((n : Int) == 1) = false) := by
        by_cases e : rr = 65533
        ·right
         have : n ≠ 1 := fun h => hbad ⟨e, h⟩
         refine ⟨by simp; omega, by simp; omega⟩
        ·left
         simp; omega
       clear hbad
       rcases hr12 with hr1 | ⟨hr1, hr2⟩
       all_goals
        go_wp2_with fail
        go_quiet (fail)
        go_wp2
        go_roundg (s.size - (k' + n) + 1)
        case measure => rw [P.out.2]; simp; omega
        case rel =>
         refine ⟨k' + n, false, o ++ (s.extract k' (k' + n)).data.toList, by simp, by rw [cat_str], ?_, Kp.setCell (p := ⟨rb, 1, none⟩) (K3.drewN _) (fun _ => rfl) _, fun _ => ⟨HZ.out.2, HZ.out.1⟩, fun e => (by cases e)⟩
         exact (h3.drewN _).at (k' + n) (by omega) (fun _ => by omega)
end Go.Proofs.YtocligpfmfmihaaGreatDoor

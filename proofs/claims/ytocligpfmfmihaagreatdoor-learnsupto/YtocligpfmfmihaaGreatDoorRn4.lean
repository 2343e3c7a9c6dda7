import Derived.Test.YtocligpfmfmihaaGreatDoorRn1G
import Derived.Test.YtocligpfmfmihaaGreatDoorPr12G
import Derived.Test.YtocligpfmfmihaaGreatDoorPn2G
import Derived.Test.YtocligpfmfmihaaGreatDoorSgn3G
import Derived.Test.YtocligpfmfmihaaGreatDoorSgn4G
namespace Go.Proofs.YtocligpfmfmihaaGreatDoor
open Go Go.RowKit Go.Maps
attribute [local go_sem] Oper.semAt_some
theorem msg_short (t : Bs) : (messageF t).1.length ≤ 602 := by
 unfold messageF
 cases ho : objectF t with
 | error e => show ([] : Bs).length ≤ _; simp
 | ok l =>
  obtain ⟨hp, hl⟩ := object_ok ho
  have hok := parse_ok hp
  have h1 := bare_len l
  show (bareF l).length ≤ _
  unfold bareF
  omega
theorem asc_hit {st : Ldg} {L : List Kn} {D : List (Bs × Bs)} {A : List (Bs × Int)} {s : Bs} {n : Nat} {p : Bs × Bs} (hA : Abs st L D A) (hp : D[n]? = some p) (hix : ixOf (isS s) D = some n) : st.docs s = some p.2 := by
 obtain ⟨q, h1, h2, h3⟩ := ix_some hix
 rw [hp] at h1
 injection h1 with h1
 subst h1
 rw [hA.docs]
 unfold asc
 rw [h3]
 rfl
theorem asc_miss {st : Ldg} {L : List Kn} {D : List (Bs × Bs)} {A : List (Bs × Int)} {s : Bs} (hA : Abs st L D A) (hix : ixOf (isS s) D = none) : st.docs s = none := by
 rw [hA.docs]
 unfold asc
 rw [ix_none hix]
 rfl
def RSigned (W : World) : Prop := ∀ (s : ByteArray) (sv id sig : Bs), sv.length ≤ 2000000 → id.length ≤ 2000000 → sig.length ≤ 2000000 → ∀ w : World, Below W.heap.size W w →
  Calls Tryz.prog 19 #[.string s, .string ⟨sv.toArray⟩, .string ⟨id.toArray⟩, .string ⟨sig.toArray⟩] w fun e w' => e = .returned (.tuple #[.string ⟨(signedF s.data.toList sv id sig).1.toArray⟩, .int .i64 ((signedF s.data.toList sv id sig).2 : Int)]) ∧ Kp (fun _ => False) w w'
set_option maxRecDepth 20000 in
set_option maxHeartbeats 4000000 in
theorem ranswer_c (W : World) (hG : GL W) (hSg : RSigned W) (w : World) (hW : Below W.heap.size W w) (F : Nat → Prop) (b : Nat) (nm id ky : Bs) (so : Value) (st : Ldg) (c : Nat) (hR : RN w F b nm id ky so st c) (s : Bs) (h1 : nm.length ≤ 2000000) (h2 : id.length ≤ 2000000) (h3 : ky.length ≤ 2000000) :
  Calls Tryz.prog 87 #[.pointer (some ⟨b, 0, none⟩), .string ⟨s.toArray⟩] w fun e w' => AnsR w (answerS st nm id ky s) e w' := by
 obtain ⟨l, d, a, L, D, A, hs, hA, _⟩ := hR
 obtain ⟨da, dc, rfl, hdm, hda⟩ := own_sl hs.rd
 have HS := hide (And.intro hs (And.intro hA hda))
 have HSg := hide hSg
 clear hs hA hda hSg
 go_enter Tryz.func87, Tryz.ntmps87
 go_wp2_with fail
 go_loopg [6] D.length (fun gg q wx => ∃ (i : Nat), gg = D.length - i ∧ i ≤ D.length ∧ q = .int .i64 (i : Int) ∧ Kp (fun _ => False) w wx ∧ ∀ (j : Nat) (p : Bs × Bs), j < i → D[j]? = some p → p.1 ≠ s)
 case atStart => exact ⟨0, rfl, by omega, rfl, Kp.refl _ _, fun _ _ h => absurd h (by omega)⟩
 case round =>
  obtain ⟨i3, hgg3, hin3, rfl, Kr3, hall3⟩ := hrel
  have hs3 := HS.out.1.kp Kr3
  obtain ⟨f0, f1, f2, f3, f4, f5, f6⟩ := rn_facts hs3.blk
  have HY := hide (And.intro hgg3 (And.intro Kr3 (And.intro hs3 hall3)))
  clear hgg3 Kr3 hall3 hs3
  by_cases hlt3 : i3 < D.length
  ·have hlt3' : (i3 : Int) < (D.length : Int) := by omega
   obtain ⟨p, hp⟩ : ∃ p, D[i3]? = some p := ⟨D[i3], List.getElem?_eq_getElem hlt3⟩
   obtain ⟨dg, rfl, _⟩ := HS.out.2.2 (by omega)
   obtain ⟨d0, d1⟩ := hd_cells HY.out.2.2.1.rd i3 p hp
   have HP := hide hp
   clear hp
   by_cases he : p.1 = s
   ·have he' : (p.1 == s) = true := by simpa using he
    have hA : answerS st nm id ky s = signedF p.2 nm id (sealF ⟨ky.toArray⟩ ⟨(messageF p.2).1.toArray⟩).data.toList := by
     unfold answerS
     rw [asc_hit HS.out.2.1 HP.out (ixs_some HP.out he HY.out.2.2.2)]
    have HA := hide hA
    clear he hA
    have HM := hide (rmessage_c W hG ⟨p.2.toArray⟩ wr (below_kp hW HY.out.2.1))
    have e9 : (⟨p.2.toArray⟩ : ByteArray).data.toList = p.2 := by simp
    rw [e9] at HM
    have hms := msg_short p.2
    obtain ⟨mm, hmm⟩ : ∃ mm : Bs, (messageF p.2).1 = mm := ⟨_, rfl⟩
    obtain ⟨mn, hmn⟩ : ∃ mn : Nat, (messageF p.2).2 = mn := ⟨_, rfl⟩
    rw [hmm, hmn] at HM
    rw [hmm] at HA hms
    obtain ⟨sg, hsg⟩ : ∃ sg : Bs, (sealF ⟨ky.toArray⟩ ⟨mm.toArray⟩).data.toList = sg := ⟨_, rfl⟩
    have hsl : sg.length = 8 := by
     have := sealF_len ⟨ky.toArray⟩ ⟨mm.toArray⟩
     rw [← hsg, dlen]
     exact this
    have hse : sealF ⟨ky.toArray⟩ ⟨mm.toArray⟩ = ⟨sg.toArray⟩ := by rw [← hsg]
    have HSL : Hid (∀ X : World, Calls Tryz.prog 49 #[.string ⟨ky.toArray⟩, .string ⟨mm.toArray⟩] X fun e w' => e = .returned (.string ⟨sg.toArray⟩) ∧ w' = X) := fun X => by
     rw [← hse]
     exact refSeal_any ⟨ky.toArray⟩ ⟨mm.toArray⟩ X (by rw [mk_size2]; omega) (by rw [mk_size2]; omega)
    rw [hsg] at HA
    have HGN := HSg.out ⟨p.2.toArray⟩ nm id sg h1 h2 (by omega)
    rw [e9, ← HA.out] at HGN
    have HG2 := hide HGN
    clear hmm hmn hsg hse HGN e9
    go_wp2_with fail
    refine HM.out.mono ?_
    rintro e w1 ⟨rfl, K1⟩
    have hs4 := HY.out.2.2.1.kp K1
    clear f0 f1 f2 f3 f4 f5 f6 d0 d1
    obtain ⟨f0, f1, f2, f3, f4, f5, f6⟩ := rn_facts hs4.blk
    obtain ⟨d0, d1⟩ := hd_cells hs4.rd i3 p HP.out
    have HK := hide (HY.out.2.1.trans K1)
    clear K1 hs4
    go_wp2_with fail
    refine (HSL.out _).mono ?_
    rintro e w2 ⟨rfl, rfl⟩
    go_wp2_with fail
    go_region_law (refine step_callF rfl 19 _ _ rfl #[.string ⟨p.2.toArray⟩, .string ⟨nm.toArray⟩, .string ⟨id.toArray⟩, .string ⟨sg.toArray⟩] (by go_simp) ?_; refine (HG2.out _ (below_kp hW HK.out.drew)).mono ?_; rintro e w3 ⟨rfl, K3⟩; have HK3 := hide (HK.out.drew.trans K3); clear K3)
    all_goals go_wp2
    all_goals go_ret2
    all_goals exact ⟨rfl, HK3.out⟩
   ·have he' : (p.1 == s) = false := by simpa using he
    have HE := hide he
    clear he
    go_wp2
    go_roundg (D.length - (i3 + 1))
    all_goals first
     | (rw [HY.out.1]; omega)
     | exact ⟨i3 + 1, rfl, by omega, int_i64 (by omega), HY.out.2.1, fun j q hj hq => by
       rcases Nat.lt_or_ge j i3 with h | h
       ·exact HY.out.2.2.2 j q h hq
       ·have : j = i3 := by omega
        subst this
        rw [HP.out] at hq
        injection hq with hq
        subst hq
        exact HE.out⟩
  ·have hlt3' : ¬ (i3 : Int) < (D.length : Int) := by omega
   have hA : answerS st nm id ky s = ([], 8) := by
    unfold answerS
    rw [asc_miss HS.out.2.1 (ixs_none (fun j q hj hq => HY.out.2.2.2 j q (by omega) hq))]
   have HA := hide hA
   clear hA
   go_wp2
   go_ret2
   rw [HA.out]
   exact ⟨rfl, HY.out.2.1⟩
end Go.Proofs.YtocligpfmfmihaaGreatDoor

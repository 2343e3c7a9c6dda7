import Derived.Test.YtocligpfmfmihaaGreatDoorRn3
import Derived.Test.YtocligpfmfmihaaGreatDoorRn4
import Derived.Test.YtocligpfmfmihaaGreatDoorPn11
namespace Go.Proofs.YtocligpfmfmihaaGreatDoor
open Go Go.RowKit Go.Maps Go.WideMaps Go.MuLone
attribute [local go_sem] Oper.semAt_some
def PR (w : World) (F : Nat → Prop) (pb : Nat) (nm id ky : Bs) (srcs : List Bs) (so : Value) (st : Ldg) (c : Nat) : Prop :=
 ∃ (Fn Fr : Nat → Prop) (nb rb : Nat), w.heap[pb]? = some (.cells #[.pointer (some ⟨nb, 0, none⟩), .pointer (some ⟨rb, 0, none⟩)] 90) ∧ PN w Fn nb nm id ky srcs st c ∧ RN w Fr rb nm id ky so st c ∧ (∀ k, Fn k → F k ∧ ¬ Fr k ∧ k ≠ pb) ∧ (∀ k, Fr k → F k ∧ k ≠ pb) ∧ F pb ∧ (∀ k, F k → k < w.heap.size)
def PrR (w : World) (F : Nat → Prop) (pb : Nat) (nm id ky : Bs) (srcs : List Bs) (so : Value) (c : Nat) (w' : World) : Prop :=
 ∃ (F' : Nat → Prop) (st' : Ldg), Kp F w w' ∧ (∀ k, F' k → F k ∨ w.heap.size ≤ k) ∧ PR w' F' pb nm id ky srcs so st' c
theorem PN.mono {w : World} {F : Nat → Prop} {nb : Nat} {nm id ky : Bs} {srcs : List Bs} {st : Ldg} {c c' : Nat} (h : PN w F nb nm id ky srcs st c) (hc : c ≤ c') : PN w F nb nm id ky srcs st c' := by
 obtain ⟨Fk, kb, so, h⟩ := h
 exact ⟨Fk, kb, so, h.mono hc⟩
theorem PR.frame {w w' : World} {F : Nat → Prop} {pb : Nat} {nm id ky : Bs} {srcs : List Bs} {so : Value} {st : Ldg} {c c' : Nat} (h : PR w F pb nm id ky srcs so st c) (hs : w.heap.size ≤ w'.heap.size) (hk : ∀ k, F k → w'.heap[k]? = w.heap[k]?) (hc : c ≤ c') : PR w' F pb nm id ky srcs so st c' := by
 obtain ⟨Fn, Fr, nb, rb, h1, h2, h3, h4, h5, h6, h7⟩ := h
 exact ⟨Fn, Fr, nb, rb, (hk pb h6).trans h1, (h2.frame hs (fun k hf => hk k (h4 k hf).1)).mono hc, (h3.frame (fun k hf => hk k (h5 k hf).1)).mono hc, h4, h5, h6, fun k hf => Nat.lt_of_lt_of_le (h7 k hf) hs⟩
theorem PR.lt {w : World} {F : Nat → Prop} {pb : Nat} {nm id ky : Bs} {srcs : List Bs} {so : Value} {st : Ldg} {c : Nat} (h : PR w F pb nm id ky srcs so st c) : ∀ k, F k → k < w.heap.size := by
 obtain ⟨Fn, Fr, nb, rb, h1, h2, h3, h4, h5, h6, h7⟩ := h
 exact h7
theorem prr_same {w w' : World} {F : Nat → Prop} {pb : Nat} {nm id ky : Bs} {srcs : List Bs} {so : Value} {st : Ldg} {c c' : Nat} (h : PR w F pb nm id ky srcs so st c) (K : Kp (fun _ => False) w w') (hc : c ≤ c') : PrR w F pb nm id ky srcs so c' w' :=
 ⟨F, st, K.mono (fun _ _ h => h.elim), fun _ h => Or.inl h, h.frame K.size (fun k hf => K.block k (h.lt k hf) (by simp)) hc⟩
theorem prr_learn {w w1 w2 w3 : World} {F Fn Fr : Nat → Prop} {pb nb rb : Nat} {nm id ky : Bs} {srcs : List Bs} {so : Value} {st' : Ldg} {c : Nat} (hp : w.heap[pb]? = some (.cells #[.pointer (some ⟨nb, 0, none⟩), .pointer (some ⟨rb, 0, none⟩)] 90)) (h4 : ∀ k, Fn k → F k ∧ ¬ Fr k ∧ k ≠ pb) (h5 : ∀ k, Fr k → F k ∧ k ≠ pb) (h6 : F pb) (h7 : ∀ k, F k → k < w.heap.size) (K1 : Kp (fun _ => False) w w1) (hn : PnR w1 Fn nb nm id ky srcs st' c w2) (hr : RnR w2 Fr rb nm id ky so st' c w3) : PrR w F pb nm id ky srcs so c w3 := by
 obtain ⟨Fn', Kn, hn1, hn3⟩ := hn
 have hn2 : ∀ k, Fn' k → k < w2.heap.size := by
  obtain ⟨Fk, kb, so', h⟩ := hn3
  exact h.lt
 obtain ⟨Fr', Kr, hr1, hr2, hr3⟩ := hr
 have s1 := K1.size
 have s2 := Kn.size
 have s3 := Kr.size
 refine ⟨fun k => (F k ∨ w.heap.size ≤ k) ∧ k < w3.heap.size, st', ?_, fun _ h => h.1, Fn', Fr', nb, rb, ?_, ?_, hr3, ?_, ?_, ?_, fun _ h => h.2⟩
 ·exact ((K1.mono (T := F) (fun _ _ h => h.elim)).and Kn (fun i _ h => (h4 i h).1)).and Kr (fun i _ h => (h5 i h).1)
 ·have hb := h7 pb h6
  rw [Kr.block pb (by omega) (fun h => (h5 pb h).2 rfl), Kn.block pb (by omega) (fun h => (h4 pb h).2.2 rfl), K1.block pb hb (by simp)]
  exact hp
 ·refine hn3.frame s3 (fun k hf => Kr.block k (hn2 k hf) (fun hfr => ?_))
  rcases hn1 k hf with h | h
  ·exact (h4 k h).2.1 hfr
  ·have := h7 k (h5 k hfr).1
   omega
 ·intro k hf
  have hk2 := hn2 k hf
  refine ⟨⟨(hn1 k hf).imp (fun h => (h4 k h).1) (fun h => by omega), by omega⟩, fun hfr => ?_, fun e => ?_⟩
  ·rcases hr1 k hfr with h | h
   ·rcases hn1 k hf with h' | h'
    ·exact (h4 k h').2.1 h
    ·have := h7 k (h5 k h).1
     omega
   ·omega
  ·subst e
   have hb := h7 _ h6
   rcases hn1 _ hf with h | h
   ·exact (h4 _ h).2.2 rfl
   ·omega
 ·intro k hf
  refine ⟨⟨(hr1 k hf).imp (fun h => (h5 k h).1) (fun h => by omega), hr2 k hf⟩, fun e => ?_⟩
  subst e
  have hb := h7 _ h6
  rcases hr1 _ hf with h | h
  ·exact (h5 _ h).2 rfl
  ·omega
 ·have hb := h7 pb h6
  exact ⟨Or.inl h6, by omega⟩
theorem wp_mid {P : Program} {c : Code} {Q : Exit → Act → World → Prop} {a : Act} {w : World} (A : Act) (C : World → Prop) (h : Code.wp P c (noP fun ex a' w' => ex = .normal ∧ a' = A ∧ C w') a w) (hq : ∀ X, C X → Q .normal A X) : Code.wp P c Q a w :=
 wp_noP (Code.wp_mono (fun e _ _ h => by
  cases e <;> first
   | exact h.elim
   | (obtain ⟨h1, rfl, h2⟩ := h; exact hq _ h2)
   | exact absurd h.1 (by intro h; cases h)) h)
theorem mid_normal {A : Act} {X : World} {C : World → Prop} (h : C X) : noP (fun ex a' w' => ex = .normal ∧ a' = A ∧ C w') .normal A X := ⟨rfl, rfl, h⟩
theorem pnr_drew {w w' : World} {F : Nat → Prop} {nb : Nat} {nm id ky : Bs} {srcs : List Bs} {st : Ldg} {c : Nat} (h : PnR w F nb nm id ky srcs st c w') : PnR w F nb nm id ky srcs st c w'.drew := by
 obtain ⟨F', K, h1, h2⟩ := h
 exact ⟨F', K.drew, h1, h2.frame (Nat.le_refl _) (fun _ _ => rfl)⟩
theorem op_facts {w : World} {ob : Nat} {kind : Int} {two : Bool} {s t : Bs} {now : Int} {rp li : Value} (h : w.heap[ob]? = some (.cells #[.int .i64 kind, .bool two, .string ⟨s.toArray⟩, .string ⟨t.toArray⟩, .int .i64 now, rp, li] 93)) :
  w.cell? ⟨ob, 2, none⟩ = some (.string ⟨s.toArray⟩) ∧ w.cell? ⟨ob, 3, none⟩ = some (.string ⟨t.toArray⟩) ∧ w.cell? ⟨ob, 4, none⟩ = some (.int .i64 now) := by
 refine ⟨?_, ?_, ?_⟩ <;> simp [World.cell?, h]
def opV (kind : Int) (two : Bool) (s t : Bs) (now : Int) (rp li : Value) : Value := .agg #[.int .i64 kind, .bool two, .string ⟨s.toArray⟩, .string ⟨t.toArray⟩, .int .i64 now, rp, li]
set_option maxRecDepth 20000 in
set_option maxHeartbeats 4000000 in
theorem step_c (W : World) (hN : NG3 W) (hG : GL W) (hSg : RSigned W) (w : World) (hW : Below W.heap.size W w) (F : Nat → Prop) (hFl : ∀ k, F k → W.heap.size ≤ k) (pb : Nat) (nm id ky : Bs) (srcs : List Bs) (so : Value) (st : Ldg) (c : Nat) (hP : PR w F pb nm id ky srcs so st c) (h1 : nm.length ≤ 2000000) (h2 : id.length ≤ 2000000) (h3 : ky.length ≤ 2000000)
  (kind : Int) (hk : kind ≤ 3) (two : Bool) (s t : Bs) (now : Int) (rp li : Value) (hs : s.length ≤ 2000000) (ht : t.length ≤ 2000000) (hnow : -9223372036854775808 ≤ now) (hc : c ≤ 800000000) (hrp : ∃ x y z, rp = .slice x y z) (hli : ∃ x y z, li = .slice x y z) :
  Calls Tryz.prog 51 #[.pointer (some ⟨pb, 0, none⟩), opV kind two s t now rp li] w fun e w' => e = .returned (.bool true) ∧ PrR w F pb nm id ky srcs so (c + 1200) w' := by
 have HP := hide hP
 obtain ⟨Fn, Fr, nb, rb, hp, hn, hr, h4, h5, h6, h7⟩ := hP
 have HQ := hide (And.intro hp (And.intro hn (And.intro hr (And.intro h4 (And.intro h5 (And.intro h6 h7))))))
 obtain ⟨rx, ry, rz, rfl⟩ := hrp
 obtain ⟨lx, ly, lz, rfl⟩ := hli
 have c0 : w.cell? ⟨pb, 0, none⟩ = some (.pointer (some ⟨nb, 0, none⟩)) := by simp [World.cell?, hp]
 have c1 : w.cell? ⟨pb, 1, none⟩ = some (.pointer (some ⟨rb, 0, none⟩)) := by simp [World.cell?, hp]
 have hpb := lt_heap hp
 have HF := hide hFl
 clear hp hn hr h4 h5 h6 h7 hFl
 unfold opV
 have K0 : Kp (fun _ => False) w (w.alloc (.cells #[.int .i64 kind, .bool two, .string ⟨s.toArray⟩, .string ⟨t.toArray⟩, .int .i64 now, .slice rx ry rz, .slice lx ly lz] 93)) := (Kp.refl _ _).alloc _
 have I0 := heap_alloc_new w (.cells #[.int .i64 kind, .bool two, .string ⟨s.toArray⟩, .string ⟨t.toArray⟩, .int .i64 now, .slice rx ry rz, .slice lx ly lz] 93)
 have HK0 := hide (And.intro K0 I0)
 clear K0 I0
 by_cases k1 : kind = 1
 ·subst k1
  go_enter Tryz.func51, Tryz.ntmps51
  go_wp2_with fail
  generalize (w.alloc (.cells #[.int .i64 1, .bool two, .string ⟨s.toArray⟩, .string ⟨t.toArray⟩, .int .i64 now, .slice rx ry rz, .slice lx ly lz] 93)) = wd at *
  have b0 := HK0.out.1.cel c0
  have b1 := HK0.out.1.cel c1
  obtain ⟨o2, o3, o4⟩ := op_facts HK0.out.2
  have hWd := below_kp hW HK0.out.1.drew
  have hPN := HQ.out.2.1.frame (w' := wd.drew) HK0.out.1.drew.size (fun k hf => HK0.out.1.drew.block k (HQ.out.2.2.2.2.2.2 k (HQ.out.2.2.2.1 k hf).1) (by simp))
  have HLn := hide (learn_c W hN wd.drew hWd Fn (fun k h => HF.out k (HQ.out.2.2.2.1 k h).1) nb nm id ky srcs st c hPN s now hnow hc)
  clear hPN c0 c1
  refine wp_mid ?_ (fun X => PnR wd.drew Fn nb nm id ky srcs (learnS st s now).2 (c + 1200) X) ?_ ?_
  rotate_left
  ·go_region_law (refine step_callF rfl 29 _ _ rfl #[.pointer (some ⟨nb, 0, none⟩), .string ⟨s.toArray⟩, .int .i64 now] (by go_simp) ?_; refine HLn.out.mono ?_; rintro e w2 ⟨rfl, hq⟩)
   all_goals exact mid_normal hq
  intro w2 hq2
  have HN2 := hide (pnr_drew hq2)
  obtain ⟨_, Kn, _, _⟩ := hq2
  have Kn' := Kn.drew
  have hsz := HK0.out.1.size
  have g1 : w2.cell? ⟨pb, 1, none⟩ = some (.pointer (some ⟨rb, 0, none⟩)) := (Kn.cell (lt_cell b1) (fun h => (HQ.out.2.2.2.1 pb h).2.2 rfl)).trans b1
  have ho : ¬ Fn w.heap.size := fun h => Nat.lt_irrefl _ (HQ.out.2.2.2.2.2.2 _ (HQ.out.2.2.2.1 _ h).1)
  have p2 : w2.cell? ⟨w.heap.size, 2, none⟩ = some (.string ⟨s.toArray⟩) := (Kn.cell (lt_cell o2) ho).trans o2
  have p4 : w2.cell? ⟨w.heap.size, 4, none⟩ = some (.int .i64 now) := (Kn.cell (lt_cell o4) ho).trans o4
  have hW2 : Below W.heap.size W w2.drew := ⟨Kn'.os.trans hWd.os, Kn'.tape.trans hWd.tape, Kn'.output.trans hWd.output, Nat.le_trans hWd.size Kn'.size, fun k hk => (Kn'.block k (Nat.lt_of_lt_of_le hk hWd.size) (fun hf => by have := HF.out k (HQ.out.2.2.2.1 k hf).1; omega)).trans (hWd.block k hk)⟩
  have hRN := HQ.out.2.2.1.frame (w' := w2.drew) (fun k hf => by
   have hl := HQ.out.2.2.2.2.2.2 k (HQ.out.2.2.2.2.1 k hf).1
   exact (Kn'.block k (by show k < wd.heap.size; omega) (fun h => (HQ.out.2.2.2.1 k h).2.1 hf)).trans (HK0.out.1.block k hl (by simp)))
  have HLr := hide (rlearn_c W hG w2.drew hW2 Fr (fun k hf => by
   have hl := HQ.out.2.2.2.2.2.2 k (HQ.out.2.2.2.2.1 k hf).1
   have := Kn'.size
   have h8 : wd.drew.heap.size = wd.heap.size := rfl
   omega) rb nm id ky so st c hRN s now hnow hc)
  clear b0 b1 o2 o3 o4 hWd hW2 hRN Kn Kn' ho HLn
  go_wp2_with fail
  refine wp_mid ?_ (fun X => RnR w2.drew Fr rb nm id ky so (learnS st s now).2 (c + 1200) X) ?_ ?_
  rotate_left
  ·go_region_law (refine step_callF rfl 84 _ _ rfl #[.pointer (some ⟨rb, 0, none⟩), .string ⟨s.toArray⟩, .int .i64 now] (by go_simp) ?_; refine HLr.out.mono ?_; rintro e w3 ⟨rfl, hq⟩)
   all_goals exact mid_normal hq
  intro w3 hq3
  have HR3 := hide hq3
  clear hq3 HLr
  go_wp2
  go_ret
  exact ⟨by simp, prr_learn HQ.out.1 HQ.out.2.2.2.1 HQ.out.2.2.2.2.1 HQ.out.2.2.2.2.2.1 HQ.out.2.2.2.2.2.2 HK0.out.1.drew HN2.out HR3.out⟩
 by_cases k2 : kind = 2
 ·subst k2
  go_enter Tryz.func51, Tryz.ntmps51
  go_wp2_with fail
  generalize (w.alloc (.cells #[.int .i64 2, .bool two, .string ⟨s.toArray⟩, .string ⟨t.toArray⟩, .int .i64 now, .slice rx ry rz, .slice lx ly lz] 93)) = wd at *
  have b0 := HK0.out.1.cel c0
  have b1 := HK0.out.1.cel c1
  obtain ⟨o2, o3, o4⟩ := op_facts HK0.out.2
  have hWd := below_kp hW HK0.out.1.drew
  have hPN := HQ.out.2.1.frame (w' := wd.drew) HK0.out.1.drew.size (fun k hf => HK0.out.1.drew.block k (HQ.out.2.2.2.2.2.2 k (HQ.out.2.2.2.1 k hf).1) (by simp))
  have HLn := hide (key_c wd.drew Fn nb nm id ky srcs st c hPN s t hs ht now)
  obtain ⟨mv, hmv⟩ : ∃ mv : Bs, (mayS st s t now).getD [] = mv := ⟨_, rfl⟩
  obtain ⟨mb, hmb⟩ : ∃ mb : Bool, (mayS st s t now).isSome = mb := ⟨_, rfl⟩
  rw [hmv, hmb] at HLn
  clear hPN c0 c1
  refine wp_mid ?_ (fun X => Kp (fun _ => False) wd.drew X) ?_ ?_
  rotate_left
  ·go_region_law (refine step_callF rfl 32 _ _ rfl #[.pointer (some ⟨nb, 0, none⟩), .string ⟨s.toArray⟩, .string ⟨t.toArray⟩, .int .i64 now] (by go_simp) ?_; refine HLn.out.mono ?_; rintro e w2 ⟨rfl, hq⟩)
   all_goals exact mid_normal hq
  intro w2 Kn
  have HKn := hide (HK0.out.1.drew.trans Kn)
  have g1 : w2.cell? ⟨pb, 1, none⟩ = some (.pointer (some ⟨rb, 0, none⟩)) := Kn.cel b1
  have p2 : w2.cell? ⟨w.heap.size, 2, none⟩ = some (.string ⟨s.toArray⟩) := Kn.cel o2
  have p3 : w2.cell? ⟨w.heap.size, 3, none⟩ = some (.string ⟨t.toArray⟩) := Kn.cel o3
  have p4 : w2.cell? ⟨w.heap.size, 4, none⟩ = some (.int .i64 now) := Kn.cel o4
  have hRN := HQ.out.2.2.1.frame (w' := w2.drew) (fun k hf => HKn.out.drew.block k (HQ.out.2.2.2.2.2.2 k (HQ.out.2.2.2.2.1 k hf).1) (by simp))
  have HLr := hide (rmay_c w2.drew Fr rb nm id ky so st c hRN s t now)
  rw [hmv, hmb] at HLr
  clear hmv hmb
  clear b0 b1 o2 o3 o4 hWd hRN Kn HLn
  go_wp2_with fail
  refine wp_mid ?_ (fun X => Kp (fun _ => False) w2.drew X) ?_ ?_
  rotate_left
  ·go_region_law (refine step_callF rfl 85 _ _ rfl #[.pointer (some ⟨rb, 0, none⟩), .string ⟨s.toArray⟩, .string ⟨t.toArray⟩, .int .i64 now] (by go_simp) ?_; refine HLr.out.mono ?_; rintro e w3 ⟨rfl, rfl⟩; have hq := Kp.refl (fun _ => False) w2.drew)
   all_goals exact mid_normal hq
  intro w3 Kr
  have HR3 := hide (HKn.out.drew.trans Kr)
  clear Kr HLr
  go_wp2
  go_ret
  exact ⟨by simp, prr_same HP.out HR3.out (by omega)⟩
 by_cases k3 : kind = 3
 ·subst k3
  go_enter Tryz.func51, Tryz.ntmps51
  go_wp2_with fail
  generalize (w.alloc (.cells #[.int .i64 3, .bool two, .string ⟨s.toArray⟩, .string ⟨t.toArray⟩, .int .i64 now, .slice rx ry rz, .slice lx ly lz] 93)) = wd at *
  have b0 := HK0.out.1.cel c0
  have b1 := HK0.out.1.cel c1
  obtain ⟨o2, o3, o4⟩ := op_facts HK0.out.2
  have hWd := below_kp hW HK0.out.1.drew
  have hPN := HQ.out.2.1.frame (w' := wd.drew) HK0.out.1.drew.size (fun k hf => HK0.out.1.drew.block k (HQ.out.2.2.2.2.2.2 k (HQ.out.2.2.2.1 k hf).1) (by simp))
  have HLn : Hid (Calls Tryz.prog 86 #[.pointer (some ⟨nb, 0, none⟩), .string ⟨s.toArray⟩] wd.drew fun e w' => e = .returned (.tuple #[.string ⟨(answerS st nm id ky s).1.toArray⟩, .int .i64 (answerS st nm id ky s).2]) ∧ Kp (fun _ => False) wd.drew w') := answer_c W hN wd.drew hWd Fn (fun k h => HF.out k (HQ.out.2.2.2.1 k h).1) nb nm id ky srcs st c hPN s hs h1 h2 h3
  obtain ⟨mv, hmv⟩ : ∃ mv : Bs, (answerS st nm id ky s).1 = mv := ⟨_, rfl⟩
  obtain ⟨mb, hmb⟩ : ∃ mb : Nat, (answerS st nm id ky s).2 = mb := ⟨_, rfl⟩
  rw [hmv, hmb] at HLn
  clear hPN c0 c1
  refine wp_mid ?_ (fun X => Kp (fun _ => False) wd.drew X) ?_ ?_
  rotate_left
  ·go_region_law (refine step_callF rfl 86 _ _ rfl #[.pointer (some ⟨nb, 0, none⟩), .string ⟨s.toArray⟩] (by go_simp) ?_; refine HLn.out.mono ?_; rintro e w2 ⟨rfl, hq⟩)
   all_goals exact mid_normal hq
  intro w2 Kn
  have HKn := hide (HK0.out.1.drew.trans Kn)
  have g1 : w2.cell? ⟨pb, 1, none⟩ = some (.pointer (some ⟨rb, 0, none⟩)) := Kn.cel b1
  have p2 : w2.cell? ⟨w.heap.size, 2, none⟩ = some (.string ⟨s.toArray⟩) := Kn.cel o2
  have p3 : w2.cell? ⟨w.heap.size, 3, none⟩ = some (.string ⟨t.toArray⟩) := Kn.cel o3
  have p4 : w2.cell? ⟨w.heap.size, 4, none⟩ = some (.int .i64 now) := Kn.cel o4
  have hRN := HQ.out.2.2.1.frame (w' := w2.drew) (fun k hf => HKn.out.drew.block k (HQ.out.2.2.2.2.2.2 k (HQ.out.2.2.2.2.1 k hf).1) (by simp))
  have HLr : Hid (Calls Tryz.prog 87 #[.pointer (some ⟨rb, 0, none⟩), .string ⟨s.toArray⟩] w2.drew fun e w' => e = .returned (.tuple #[.string ⟨(answerS st nm id ky s).1.toArray⟩, .int .i64 (answerS st nm id ky s).2]) ∧ Kp (fun _ => False) w2.drew w') := ranswer_c W hG hSg w2.drew (below_kp hW HKn.out.drew) Fr rb nm id ky so st c hRN s h1 h2 h3
  rw [hmv, hmb] at HLr
  clear hmv hmb
  clear b0 b1 o2 o3 o4 hWd hRN Kn HLn
  go_wp2_with fail
  refine wp_mid ?_ (fun X => Kp (fun _ => False) w2.drew X) ?_ ?_
  rotate_left
  ·go_region_law (refine step_callF rfl 87 _ _ rfl #[.pointer (some ⟨rb, 0, none⟩), .string ⟨s.toArray⟩] (by go_simp) ?_; refine HLr.out.mono ?_; rintro e w3 ⟨rfl, hq⟩)
   all_goals exact mid_normal hq
  intro w3 Kr
  have HR3 := hide (HKn.out.drew.trans Kr)
  clear Kr HLr
  go_wp2
  go_ret
  exact ⟨by simp, prr_same HP.out HR3.out (by omega)⟩
 have k4 : kind ≠ 4 := by omega
 have k5 : kind ≠ 5 := by omega
 go_enter Tryz.func51, Tryz.ntmps51
 go_wp2
 go_ret
 exact ⟨rfl, prr_same HP.out HK0.out.1 (by omega)⟩
end Go.Proofs.YtocligpfmfmihaaGreatDoor

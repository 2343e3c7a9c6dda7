import Derived.Shelf.SlSortCmp.WholeK
import Derived.Shelf.Spec.SlicesGrow
import Derived.Test.YtocligpfmfmihabGreatDoorProg
import Derived.Test.YtocligpfmfmihabGreatDoorPr6G
import Derived.Test.YtocligpfmfmihabGreatDoorPr2G
namespace Go.Proofs
open Go.Shelf
def Tryz.sortKey_ren : Go.Shelf.Ren := ⟨fun | 6 => 139 | 15 => 169 | 14 => 168 | 28 => 196 | 29 => 197 | 20 => 188 | 21 => 189 | 22 => 190 | 23 => 191 | 24 => 192 | 25 => 193 | 26 => 194 | 27 => 195 | 46 => 208 | 47 => 209 | 48 => 210 | 49 => 211 | 50 => 212 | 57 => 228 | n => n, fun | 22 => 81 | 24 => 148 | 25 => 271 | 3 => 3 | 39 => 169 | 0 => 0 | 53 => 97 | 55 => 157 | 4 => 4 | 46 => 317 | 45 => 316 | 50 => 321 | 5 => 5 | 9 => 9 | 66 => 331 | 70 => 334 | 76 => 342 | 77 => 343 | n => n, fun | n => n⟩
theorem Tryz.sortKey : Go.Proofs.SlLaysF0.n6 Tryz.prog Tryz.sortKey_ren := {
  mixed := by kernel_rfl
  f6 := ⟨Tryz.f139.name, by decide, Tryz.func139.trans (congrArg some (by kernel_rfl))⟩
  f14 := ⟨Tryz.f168.name, by decide, Tryz.func168.trans (congrArg some (by kernel_rfl))⟩
  f15 := Tryz.func169.trans (congrArg some (by kernel_rfl))
  f20 := ⟨Tryz.f188.name, by decide, Tryz.func188.trans (congrArg some (by kernel_rfl))⟩
  f21 := ⟨Tryz.f189.name, by decide, Tryz.func189.trans (congrArg some (by kernel_rfl))⟩
  f22 := ⟨Tryz.f190.name, by decide, Tryz.func190.trans (congrArg some (by kernel_rfl))⟩
  f23 := ⟨Tryz.f191.name, by decide, Tryz.func191.trans (congrArg some (by kernel_rfl))⟩
  f24 := ⟨Tryz.f192.name, by decide, Tryz.func192.trans (congrArg some (by kernel_rfl))⟩
  f25 := ⟨Tryz.f193.name, by decide, Tryz.func193.trans (congrArg some (by kernel_rfl))⟩
  f26 := ⟨Tryz.f194.name, by decide, Tryz.func194.trans (congrArg some (by kernel_rfl))⟩
  f27 := ⟨Tryz.f195.name, by decide, Tryz.func195.trans (congrArg some (by kernel_rfl))⟩
  f28 := Tryz.func196.trans (congrArg some (by kernel_rfl))
  f29 := Tryz.func197.trans (congrArg some (by kernel_rfl))
  f46 := ⟨Tryz.f208.name, by decide, Tryz.func208.trans (congrArg some (by kernel_rfl))⟩
  f47 := Tryz.func209.trans (congrArg some (by kernel_rfl))
  f48 := Tryz.func210.trans (congrArg some (by kernel_rfl))
  f49 := ⟨Tryz.f211.name, by decide, Tryz.func211.trans (congrArg some (by kernel_rfl))⟩
  f50 := ⟨Tryz.f212.name, by decide, Tryz.func212.trans (congrArg some (by kernel_rfl))⟩
  f57 := ⟨Tryz.f228.name, by decide, Tryz.func228.trans (congrArg some (by kernel_rfl))⟩
  t0 := Tryz.underlying0
  a0 := Tryz.isAgg0
  z0 := Tryz.sizeOf0
  v0 := Tryz.zeroValue0
  t3 := Tryz.underlying3
  a3 := Tryz.isAgg3
  z3 := Tryz.sizeOf3
  v3 := Tryz.zeroValue3
  t4 := Tryz.underlying4
  a4 := Tryz.isAgg4
  z4 := Tryz.sizeOf4
  v4 := Tryz.zeroValue4
  t5 := Tryz.underlying5
  a5 := Tryz.isAgg5
  z5 := Tryz.sizeOf5
  v5 := Tryz.zeroValue5
  t9 := Tryz.underlying9
  a9 := Tryz.isAgg9
  z9 := Tryz.sizeOf9
  v9 := Tryz.zeroValue9
  t22 := Tryz.underlying81
  a22 := Tryz.isAgg81
  z22 := Tryz.sizeOf81
  v22 := Tryz.zeroValue81
  t25 := Tryz.underlying271
  a25 := Tryz.isAgg271
  z25 := Tryz.sizeOf271
  v25 := Tryz.zeroValue271
  t39 := Tryz.underlying169
  a39 := Tryz.isAgg169
  z39 := Tryz.sizeOf169
  v39 := Tryz.zeroValue169
  t45 := Tryz.underlying316
  a45 := Tryz.isAgg316
  z45 := Tryz.sizeOf316
  v45 := Tryz.zeroValue316
  t46 := Tryz.underlying317
  a46 := Tryz.isAgg317
  z46 := Tryz.sizeOf317
  v46 := Tryz.zeroValue317
  t50 := Tryz.underlying321
  a50 := Tryz.isAgg321
  z50 := Tryz.sizeOf321
  v50 := Tryz.zeroValue321
  t53 := Tryz.underlying97
  a53 := Tryz.isAgg97
  z53 := Tryz.sizeOf97
  v53 := Tryz.zeroValue97
  t55 := Tryz.underlying157
  a55 := Tryz.isAgg157
  z55 := Tryz.sizeOf157
  v55 := Tryz.zeroValue157
  t66 := Tryz.underlying331
  a66 := Tryz.isAgg331
  z66 := Tryz.sizeOf331
  v66 := Tryz.zeroValue331
  t70 := Tryz.underlying334
  a70 := Tryz.isAgg334
  z70 := Tryz.sizeOf334
  v70 := Tryz.zeroValue334
  t76 := Tryz.underlying342
  a76 := Tryz.isAgg342
  z76 := Tryz.sizeOf342
  v76 := Tryz.zeroValue342
  t77 := Tryz.underlying343
  a77 := Tryz.isAgg343
  z77 := Tryz.sizeOf343
  v77 := Tryz.zeroValue343 }
def Tryz.growKey_ren : Go.Shelf.Ren := ⟨fun | 4 => 167 | n => n, fun | 22 => 81 | 25 => 148 | 3 => 3 | 4 => 4 | 9 => 9 | 20 => 20 | 0 => 0 | n => n, fun | n => n⟩
theorem Tryz.growKey : Go.Proofs.Lays8.n4 Tryz.prog Tryz.growKey_ren := {
  mixed := by kernel_rfl
  f4 := ⟨Tryz.f167.name, by decide, Tryz.func167.trans (congrArg some (by kernel_rfl))⟩
  t0 := Tryz.underlying0
  a0 := Tryz.isAgg0
  z0 := Tryz.sizeOf0
  v0 := Tryz.zeroValue0
  t3 := Tryz.underlying3
  a3 := Tryz.isAgg3
  z3 := Tryz.sizeOf3
  v3 := Tryz.zeroValue3
  t4 := Tryz.underlying4
  a4 := Tryz.isAgg4
  z4 := Tryz.sizeOf4
  v4 := Tryz.zeroValue4
  t9 := Tryz.underlying9
  a9 := Tryz.isAgg9
  z9 := Tryz.sizeOf9
  v9 := Tryz.zeroValue9
  t20 := Tryz.underlying20
  a20 := Tryz.isAgg20
  z20 := Tryz.sizeOf20
  v20 := Tryz.zeroValue20
  t22 := Tryz.underlying81
  a22 := Tryz.isAgg81
  z22 := Tryz.sizeOf81
  v22 := Tryz.zeroValue81 }
end Go.Proofs
namespace Go.Proofs.YtocligpfmfmihabGreatDoor
open Go Go.RowKit Go.Maps Go.WideMaps Go.Sort Go.Shelf
attribute [local go_sem] Oper.semAt_some

theorem grow_row (w : World) (n : Nat) (hn : n ≤ 100000) : (w.drew.alloc (.cells (([] : List Value).toArray ++ Builtin.zeroCells (Value.agg #[.string ⟨#[]⟩, .string ⟨#[]⟩, .bool false, .int .i64 0]).cells n ++ Builtin.zeroCells (Value.agg #[.string ⟨#[]⟩, .string ⟨#[]⟩, .bool false, .int .i64 0]).cells (grownCap w n 0 148 - n)) 148)).ownsRow w.heap.size 148 4 (.slice (some ⟨w.heap.size, 0, none⟩) 0 (grownCap w n 0 148)) 0 [] := by
  have h1 := grownCap_ge w n 0 148
  have h2 := grownCap_le_maxLen w n 0 148 (by unfold maxLen; omega)
  refine ⟨rfl, Or.inr ⟨_, _, _, rfl, Nat.le_refl _, heap_alloc_new w.drew _, Nat.zero_le _, h2, ?_, rfl⟩⟩
  have h3 : (Value.agg #[.string ⟨#[]⟩, .string ⟨#[]⟩, .bool false, .int .i64 0]).cells.size = 4 := rfl
  simp only [Array.size_append, size_zeroCells, h3]
  simp
  omega
theorem row_news {w : World} {B : Nat} {a : Option Addr} {n c : Nat} {ks : List Ky} (_ : n = ks.length) (row : w.ownsRow B 148 4 (.slice a n c) n (ks.flatMap kyC)) :
    (a = none → n = 0 ∧ c = 0) ∧ (∀ ad, a = some ad → ∀ j q, (ks.flatMap kyC)[j]? = some q → w.cell? (ad.add j) = some q) ∧ (∀ q ∈ ks.flatMap kyC, q.oneCell' = true) := by
  refine ⟨?_, ?_, ?_⟩
  · rintro rfl
    rcases row.2 with ⟨e1, e2⟩ | ⟨g, cap, cur, e1, _⟩
    · injection e1 with _ _ e3
      exact ⟨e2, e3⟩
    · injection e1 with e1; cases e1
  · rintro ad rfl j q hq
    rcases id row.2 with ⟨e1, e2⟩ | ⟨g, cap, cur, e1, _⟩
    · injection e1 with e1; cases e1
    · injection e1 with e1 _ _
      injection e1 with e1
      subst e1
      exact row.cells (g := g) rfl j q hq
  · intro q hq
    obtain ⟨k, _, hk⟩ := List.mem_flatMap.1 hq
    simp [kyC] at hk
    rcases hk with rfl | rfl | rfl | rfl <;> rfl
set_option maxRecDepth 20000 in
set_option maxHeartbeats 4000000 in
/-- slices.Concat of two lists of keys. -/
theorem concat_c (w : World) (B1 B2 : Nat) (v1 v2 : Value) (ks1 ks2 : List Ky) (row1 : w.ownsRow B1 148 4 v1 ks1.length (ks1.flatMap kyC)) (row2 : w.ownsRow B2 148 4 v2 ks2.length (ks2.flatMap kyC)) (ab : Nat) (hab : w.heap[ab]? = some (.cells #[v1, v2] 81)) (hpos : 0 < ks1.length) (hl1 : ks1.length ≤ 1000) (hl2 : ks2.length ≤ 1000) :
    Calls Tryz.prog 138 #[.slice (some ⟨ab, 0, none⟩) 2 2] w fun e w' => Kp (fun _ => False) w w' ∧ ∃ v, e = .returned v ∧ w'.ownsRow w.heap.size 148 4 v (ks1 ++ ks2).length ((ks1 ++ ks2).flatMap kyC) := by
  obtain ⟨a1, c1, rfl, _⟩ := own_slice4 row1
  obtain ⟨a2, c2, rfl, _⟩ := own_slice4 row2
  have hc0 : w.cell? ⟨ab, 0, none⟩ = some (.slice a1 ks1.length c1) := by simp [World.cell?, hab]
  have hc1 : w.cell? ⟨ab, 1, none⟩ = some (.slice a2 ks2.length c2) := by simp [World.cell?, hab]
  obtain ⟨i0, hi, hz0, hz1, hz2⟩ := info_parts infoKey
  have HG := hide (Any8.slices_Grow_grow Tryz.growKey i0 _ hi hz0 (by rw [hz1]; decide) none 0 0 (ks1.length + ks2.length) [] w (Nat.le_refl _) (by omega) (by rw [hz2]; omega) (by omega) (by simp) (fun _ => rfl) (by simp))
  go_enter Tryz.func138, Tryz.ntmps138
  go_wp2_with fail
  refine wp_loop_rounds 3 ?_
  rw [rounds_succ]
  go_wp2_with fail
  rw [rounds_succ]
  go_wp2_with fail
  rw [rounds_succ]
  go_wp2_with fail
  refine (show Calls Tryz.prog 167 #[.slice none 0 0, .int .i64 ((ks1.length : Int) + (ks2.length : Int))] w _ from HG.out).mono ?_
  rintro e w1 ⟨rfl, hw1⟩
  simp only [Nat.zero_add, Nat.sub_zero] at hw1 ⊢
  have g0 := grow_row w (ks1.length + ks2.length) (by omega)
  have K1 : Kp (fun _ => False) w w1 := by
    rw [hw1]
    exact ((Kp.refl _ w).drew).alloc _
  have hg1 : w1.ownsRow w.heap.size 148 4 (.slice (some ⟨w.heap.size, 0, none⟩) 0 (grownCap w (ks1.length + ks2.length) 0 148)) 0 [] := by
    rw [hw1]
    exact g0
  clear HG g0 hw1
  have hgc : Hid (w1.ownsRow w.heap.size 148 4 (.slice (some ⟨w.heap.size, 0, none⟩) 0 (grownCap w (ks1.length + ks2.length) 0 148)) 0 []) := hg1
  clear hg1
  have e0 : (Tryz.growKey_ren.t 25) = 148 := rfl
  rw [e0]
  generalize grownCap w (ks1.length + ks2.length) 0 148 = gc at *
  obtain ⟨d0, d1⟩ := two_cells (K1.heap hab)
  have r11 : w1.ownsRow B1 148 4 (.slice a1 ks1.length c1) ks1.length (ks1.flatMap kyC) := ownsRow_heap row1 (fun j hj => K1.block j (row1.lt j hj).2 (by simp))
  have HN1 := hide (row_news rfl r11)
  clear hc0 hc1
  have hsz1 := K1.size
  go_wp2_with fail
  refine wp_loop_rounds 3 ?_
  rw [rounds_succ]
  go_wp2_with (at_builtin; (refine wpList_append_any _ rfl _ _ 81 rfl w.heap.size 148 i0 (.agg #[.string ⟨#[]⟩, .string ⟨#[]⟩, .bool false, .int .i64 0]) 4 48 Tryz.underlying81 hi hz0 hz1 hz2 rfl (by decide) _ _ _ rfl hgc.out a1 ks1.length c1 (ks1.flatMap kyC) rfl (kyC_len ks1) HN1.out.1 HN1.out.2.1 HN1.out.2.2 (by unfold maxLen; omega) (by omega) (by omega) ?_))
  intro v2 w2 y1 y2 y3
  have K2 : Kp (fun _ => False) w w2 := K1.gr y2 (fun r e => (hgc.out.lt r e).1)
  obtain ⟨e0, e1⟩ := two_cells (K2.heap hab)
  try simp only [Nat.zero_add, List.nil_append] at y1
  obtain ⟨a3, c3, rfl, _⟩ := own_slice4 y1
  have r22 : w2.ownsRow B2 148 4 (.slice a2 ks2.length c2) ks2.length (ks2.flatMap kyC) := ownsRow_heap row2 (fun j hj => K2.block j (row2.lt j hj).2 (by simp))
  have HN2 := hide (row_news rfl r22)
  have HY := hide y1
  have hsz2 := K2.size
  clear hgc HN1 y1 y2 y3 d0 d1 r11
  go_wp2_with fail
  rw [rounds_succ]
  go_wp2_with (at_builtin; (refine wpList_append_any _ rfl _ _ 81 rfl w.heap.size 148 i0 (.agg #[.string ⟨#[]⟩, .string ⟨#[]⟩, .bool false, .int .i64 0]) 4 48 Tryz.underlying81 hi hz0 hz1 hz2 rfl (by decide) _ _ _ rfl HY.out a2 ks2.length c2 (ks2.flatMap kyC) rfl (kyC_len ks2) HN2.out.1 HN2.out.2.1 HN2.out.2.2 (by unfold maxLen; omega) (by omega) (by omega) ?_))
  intro v4 w3 y1 y2 y3
  have K3 : Kp (fun _ => False) w w3 := K2.gr y2 (fun r e => (HY.out.lt r e).1)
  obtain ⟨a4, c4, rfl, _⟩ := own_slice4 y1
  have HF := hide y1
  clear HY HN2 y1 y2 y3 e0 e1 r22
  go_wp2_with fail
  rw [rounds_succ]
  go_wp2
  go_ret
  refine ⟨K3, _, rfl, ?_⟩
  rw [List.length_append, List.flatMap_append]
  exact HF.out
end Go.Proofs.YtocligpfmfmihabGreatDoor

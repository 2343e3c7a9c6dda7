import Derived.Shelf.SlIter.Nil
import Derived.Shelf.SortM.Plain
import Derived.Shelf.SortM.SortNone
import Derived.Test.YtocligpfmfmihabGreatDoorProg
import Derived.Test.YtocligpfmfmihabGreatDoorWrt3G
import Derived.RangeFuncNested
import Derived.RangeFuncBound
import Derived.RangeFuncCalls
import Derived.RangeFuncLeaves
import Derived.RangeFuncFrom
import Derived.Shelf.Abstract
import Derived.Shelf.RegionOpen
import Derived.OwnWalkIn
import Derived.TacticsInMore
import Derived.LoopNIn
import Derived.LoopIn
import Derived.Maps.OwnIn
namespace Go.Proofs
open Go.Shelf
def Tryz.keys150_ren : Go.Shelf.Ren := ⟨fun | 7 => 150 | 10 => 173 | n => n, fun | 23 => 76 | 26 => 9 | 3 => 137 | 28 => 281 | 0 => 0 | 27 => 280 | 33 => 265 | 4 => 4 | n => n, fun | n => n⟩
theorem Tryz.keys150 : Go.Proofs.SlLaysZ.n7 Tryz.prog Tryz.keys150_ren := {
  mixed := by kernel_rfl
  f7 := ⟨Tryz.f150.name, by decide, Tryz.func150.trans (congrArg some (by kernel_rfl))⟩
  f10 := ⟨Tryz.f173.name, by decide, Tryz.func173.trans (congrArg some (by kernel_rfl))⟩
  t0 := Tryz.underlying0
  a0 := Tryz.isAgg0
  z0 := Tryz.sizeOf0
  v0 := Tryz.zeroValue0
  t4 := Tryz.underlying4
  a4 := Tryz.isAgg4
  z4 := Tryz.sizeOf4
  v4 := Tryz.zeroValue4
  t23 := Tryz.underlying76
  a23 := Tryz.isAgg76
  z23 := Tryz.sizeOf76
  v23 := Tryz.zeroValue76
  t26 := Tryz.underlying9
  a26 := Tryz.isAgg9
  z26 := Tryz.sizeOf9
  v26 := Tryz.zeroValue9
  t27 := Tryz.underlying280
  a27 := Tryz.isAgg280
  z27 := Tryz.sizeOf280
  v27 := Tryz.zeroValue280
  t28 := Tryz.underlying281
  a28 := Tryz.isAgg281
  z28 := Tryz.sizeOf281
  v28 := Tryz.zeroValue281
  t33 := Tryz.underlying265
  a33 := Tryz.isAgg265
  z33 := Tryz.sizeOf265
  v33 := Tryz.zeroValue265 }
def Tryz.sorted149_ren : Go.Shelf.Ren := ⟨fun | 6 => 149 | 8 => 171 | 9 => 172 | 11 => 199 | 13 => 169 | 12 => 200 | 23 => 196 | 24 => 197 | 14 => 213 | 15 => 214 | 16 => 215 | 17 => 216 | 18 => 217 | 19 => 218 | 20 => 219 | 21 => 220 | 22 => 221 | 25 => 229 | 26 => 209 | 27 => 210 | 28 => 230 | 29 => 231 | 30 => 232 | 31 => 234 | n => n, fun | 26 => 9 | 28 => 281 | 24 => 26 | 0 => 0 | 3 => 3 | 37 => 169 | 48 => 97 | 50 => 157 | 4 => 4 | 40 => 317 | 39 => 316 | 45 => 321 | 5 => 5 | 9 => 9 | 51 => 331 | 55 => 334 | 57 => 342 | 58 => 343 | 33 => 265 | n => n, fun | n => n⟩
theorem Tryz.sorted149 : Go.Proofs.SlLaysZ.n6 Tryz.prog Tryz.sorted149_ren := {
  mixed := by kernel_rfl
  f6 := ⟨Tryz.f149.name, by decide, Tryz.func149.trans (congrArg some (by kernel_rfl))⟩
  f8 := ⟨Tryz.f171.name, by decide, Tryz.func171.trans (congrArg some (by kernel_rfl))⟩
  f11 := ⟨Tryz.f199.name, by decide, Tryz.func199.trans (congrArg some (by kernel_rfl))⟩
  t0 := Tryz.underlying0
  a0 := Tryz.isAgg0
  z0 := Tryz.sizeOf0
  v0 := Tryz.zeroValue0
  t24 := Tryz.underlying26
  a24 := Tryz.isAgg26
  z24 := Tryz.sizeOf26
  v24 := Tryz.zeroValue26
  t26 := Tryz.underlying9
  a26 := Tryz.isAgg9
  z26 := Tryz.sizeOf9
  v26 := Tryz.zeroValue9
  t28 := Tryz.underlying281
  a28 := Tryz.isAgg281
  z28 := Tryz.sizeOf281
  v28 := Tryz.zeroValue281
  i26 := by kernel_rfl }
def Tryz.sort172_ren : Go.Shelf.Ren := ⟨fun | 6 => 172 | 8 => 169 | 9 => 200 | 19 => 196 | 20 => 197 | 21 => 213 | 22 => 214 | 23 => 215 | 24 => 216 | 25 => 217 | 26 => 218 | 27 => 219 | 28 => 220 | 29 => 221 | 36 => 229 | 31 => 209 | 32 => 210 | 37 => 230 | 38 => 231 | 39 => 232 | 41 => 234 | n => n, fun | 27 => 26 | 29 => 9 | 3 => 3 | 32 => 169 | 26 => 26 | 0 => 0 | 44 => 97 | 46 => 157 | 4 => 4 | 36 => 317 | 35 => 316 | 41 => 321 | 5 => 5 | 9 => 9 | 53 => 331 | 57 => 334 | 63 => 342 | 64 => 343 | n => n, fun | n => n⟩
theorem Tryz.sort172 : Go.Proofs.SlLaysM.n6 Tryz.prog Tryz.sort172_ren := {
  mixed := by kernel_rfl
  f6 := ⟨Tryz.f172.name, by decide, Tryz.func172.trans (congrArg some (by kernel_rfl))⟩
  f8 := Tryz.func169.trans (congrArg some (by kernel_rfl))
  f9 := ⟨Tryz.f200.name, by decide, Tryz.func200.trans (congrArg some (by kernel_rfl))⟩
  f19 := Tryz.func196.trans (congrArg some (by kernel_rfl))
  f20 := Tryz.func197.trans (congrArg some (by kernel_rfl))
  f21 := ⟨Tryz.f213.name, by decide, Tryz.func213.trans (congrArg some (by kernel_rfl))⟩
  f22 := ⟨Tryz.f214.name, by decide, Tryz.func214.trans (congrArg some (by kernel_rfl))⟩
  f23 := ⟨Tryz.f215.name, by decide, Tryz.func215.trans (congrArg some (by kernel_rfl))⟩
  f24 := ⟨Tryz.f216.name, by decide, Tryz.func216.trans (congrArg some (by kernel_rfl))⟩
  f25 := ⟨Tryz.f217.name, by decide, Tryz.func217.trans (congrArg some (by kernel_rfl))⟩
  f26 := ⟨Tryz.f218.name, by decide, Tryz.func218.trans (congrArg some (by kernel_rfl))⟩
  f27 := ⟨Tryz.f219.name, by decide, Tryz.func219.trans (congrArg some (by kernel_rfl))⟩
  f28 := ⟨Tryz.f220.name, by decide, Tryz.func220.trans (congrArg some (by kernel_rfl))⟩
  f29 := ⟨Tryz.f221.name, by decide, Tryz.func221.trans (congrArg some (by kernel_rfl))⟩
  f31 := Tryz.func209.trans (congrArg some (by kernel_rfl))
  f32 := Tryz.func210.trans (congrArg some (by kernel_rfl))
  f36 := ⟨Tryz.f229.name, by decide, Tryz.func229.trans (congrArg some (by kernel_rfl))⟩
  f37 := ⟨Tryz.f230.name, by decide, Tryz.func230.trans (congrArg some (by kernel_rfl))⟩
  f38 := ⟨Tryz.f231.name, by decide, Tryz.func231.trans (congrArg some (by kernel_rfl))⟩
  f39 := ⟨Tryz.f232.name, by decide, Tryz.func232.trans (congrArg some (by kernel_rfl))⟩
  f41 := ⟨Tryz.f234.name, by decide, Tryz.func234.trans (congrArg some (by kernel_rfl))⟩
  t0 := Tryz.underlying0
  a0 := Tryz.isAgg0
  z0 := Tryz.sizeOf0
  v0 := Tryz.zeroValue0
  t3 := Tryz.underlying3
  a3 := Tryz.isAgg3
  z3 := Tryz.sizeOf3
  v3 := Tryz.zeroValue3
  t4 := Tryz.underlying4
  a4 := Tryz.isAgg4
  z4 := Tryz.sizeOf4
  v4 := Tryz.zeroValue4
  t5 := Tryz.underlying5
  a5 := Tryz.isAgg5
  z5 := Tryz.sizeOf5
  v5 := Tryz.zeroValue5
  t9 := Tryz.underlying9
  a9 := Tryz.isAgg9
  z9 := Tryz.sizeOf9
  v9 := Tryz.zeroValue9
  t26 := Tryz.underlying26
  a26 := Tryz.isAgg26
  z26 := Tryz.sizeOf26
  v26 := Tryz.zeroValue26
  t27 := Tryz.underlying26
  a27 := Tryz.isAgg26
  z27 := Tryz.sizeOf26
  v27 := Tryz.zeroValue26
  t29 := Tryz.underlying9
  a29 := Tryz.isAgg9
  z29 := Tryz.sizeOf9
  v29 := Tryz.zeroValue9
  t32 := Tryz.underlying169
  a32 := Tryz.isAgg169
  z32 := Tryz.sizeOf169
  v32 := Tryz.zeroValue169
  t35 := Tryz.underlying316
  a35 := Tryz.isAgg316
  z35 := Tryz.sizeOf316
  v35 := Tryz.zeroValue316
  t36 := Tryz.underlying317
  a36 := Tryz.isAgg317
  z36 := Tryz.sizeOf317
  v36 := Tryz.zeroValue317
  t41 := Tryz.underlying321
  a41 := Tryz.isAgg321
  z41 := Tryz.sizeOf321
  v41 := Tryz.zeroValue321
  t44 := Tryz.underlying97
  a44 := Tryz.isAgg97
  z44 := Tryz.sizeOf97
  v44 := Tryz.zeroValue97
  t46 := Tryz.underlying157
  a46 := Tryz.isAgg157
  z46 := Tryz.sizeOf157
  v46 := Tryz.zeroValue157
  t53 := Tryz.underlying331
  a53 := Tryz.isAgg331
  z53 := Tryz.sizeOf331
  v53 := Tryz.zeroValue331
  t57 := Tryz.underlying334
  a57 := Tryz.isAgg334
  z57 := Tryz.sizeOf334
  v57 := Tryz.zeroValue334
  t63 := Tryz.underlying342
  a63 := Tryz.isAgg342
  z63 := Tryz.sizeOf342
  v63 := Tryz.zeroValue342
  t64 := Tryz.underlying343
  a64 := Tryz.isAgg343
  z64 := Tryz.sizeOf343
  v64 := Tryz.zeroValue343 }
open Go.RowKit Go.Maps Go.Sort

/-- slices.Sort's two contracts at this dump, at the fence that asks nothing. -/
theorem Tryz.sorts149 (m : Nat) : AnyZ.SortsIn Tryz.prog Tryz.sorted149_ren Fence.wide m :=
  ⟨fun blk off cap ss W hH hblk hsz => callsIn_wide.2 (AnyM.slices_Sort_string Tryz.sort172 blk off cap ss W hH hblk hsz),
   fun p cap W => callsIn_wide.2 (AnyM.slices_Sort_string_none Tryz.sort172 p cap W)⟩

/-- **maps.Keys[notary/value.Object,string,notary/value.Value], at whatever map, the nil one too:** a function value over ONE NEW BLOCK, which holds the map. -/
theorem Tryz.maps_Keys_150 (mb : Option Nat) (W : World) : CallsIn Fence.wide 5 Tryz.prog 150 #[.map mb] W fun e w' => e = .returned (.func (.func 173) #[] #[.pointer (some ⟨W.heap.size, 0, none⟩)]) ∧ w' = W.alloc (.cells #[.map mb] 76) :=
  AnyZ.keys_in Tryz.keys150 Fence.wide 5 trivial rfl mb W

set_option maxHeartbeats 1000000 in
/-- **slices.Sorted[string] AT WHAT maps.Keys[notary/value.Object,string,notary/value.Value] HANDED BACK FOR A MAP THAT IS NOT nil** ('w': the world AHEAD of maps.Keys' call): A NEW SLICE THAT HOLDS THE MAP's KEYS, SORTED; nil just where it has none; nothing that lay before has turned. -/
theorem Tryz.slices_Sorted_keys_149_150 {H : Type} (b nn : Nat) (D0 : DataW H) (R : Value → Option (DataW H × List MemPlace)) (w : World) (hown : w.ownsMap Tryz.prog 9 R b nn D0) (hmax : Maps.size D0 ≤ maxLen) (hbytes : Maps.size D0 * 16 ≤ 140737488355328) :
    CallsIn Fence.wide 5 Tryz.prog 149 #[.func (.func 173) #[] #[.pointer (some ⟨w.heap.size, 0, none⟩)]] (w.alloc (.cells #[.map (some b)] 76)) fun e w' => ∃ (v : Value) (ss : List (List UInt8)), e = .returned v ∧ ss.Perm (strKeys D0) ∧
      w'.ownsRow (w.alloc (.cells #[.map (some b)] 76)).heap.size 9 1 v ss.length ((ss.mergeSort (fun x y => decide (x ≤ y))).map encStr) ∧ (v = .slice none 0 0 ↔ ss = []) ∧ Below (w.alloc (.cells #[.map (some b)] 76)).heap.size (w.alloc (.cells #[.map (some b)] 76)) w' := by
  have hbl := hown.lt
  have hseq : SeqGives Fence.wide 2 Tryz.prog 173 #[.pointer (some ⟨w.heap.size, 0, none⟩)] encStr (fun ss => ss.Perm (strKeys D0)) (Maps.size D0) (w.alloc (.cells #[.map (some b)] 76)) :=
    AnyZ.keys_gives (ρ := Tryz.keys150_ren) { Tryz.keys150 with } Fence.wide _ trivial rfl (by omega) w.heap.size b nn D0 _ (by simp) (by simp) (by
      obtain ⟨es, clock, hb, Ft, hs, hD⟩ := hown
      exact ⟨es, clock, (Below.heap_alloc _ _ b hbl).trans hb, Ft, hs, hD⟩)
  exact AnyZ.sorted_in Tryz.sorted149 Fence.wide 5 trivial trivial trivial trivial rfl (by omega) (Tryz.sorts149 _) (enters_of Tryz.func172 (by kernel_rfl) rfl) 173 #[.pointer (some ⟨w.heap.size, 0, none⟩)] trivial (enters_of Tryz.func173 (by kernel_rfl) rfl) _ _ hmax hbytes _ hseq

set_option maxHeartbeats 1000000 in
/-- **.. AND FOR THE nil MAP: nil.** -/
theorem Tryz.slices_Sorted_keys_nil_149_150 (w : World) :
    CallsIn Fence.wide 5 Tryz.prog 149 #[.func (.func 173) #[] #[.pointer (some ⟨w.heap.size, 0, none⟩)]] (w.alloc (.cells #[.map none] 76)) fun e w' => ∃ (v : Value) (ss : List (List UInt8)), e = .returned v ∧ ss = [] ∧
      w'.ownsRow (w.alloc (.cells #[.map none] 76)).heap.size 9 1 v ss.length ((ss.mergeSort (fun x y => decide (x ≤ y))).map encStr) ∧ (v = .slice none 0 0 ↔ ss = []) ∧ Below (w.alloc (.cells #[.map none] 76)).heap.size (w.alloc (.cells #[.map none] 76)) w' := by
  have hseq : SeqGives Fence.wide 2 Tryz.prog 173 #[.pointer (some ⟨w.heap.size, 0, none⟩)] encStr (fun ss : List (List UInt8) => ss = []) 0 (w.alloc (.cells #[.map none] 76)) :=
    AnyZ.keys_gives_nil (ρ := Tryz.keys150_ren) { Tryz.keys150 with } Fence.wide _ trivial rfl w.heap.size _ (by simp) (by simp)
  exact AnyZ.sorted_in Tryz.sorted149 Fence.wide 5 trivial trivial trivial trivial rfl (by omega) (Tryz.sorts149 _) (enters_of Tryz.func172 (by kernel_rfl) rfl) 173 #[.pointer (some ⟨w.heap.size, 0, none⟩)] trivial (enters_of Tryz.func173 (by kernel_rfl) rfl) _ 0 (Nat.zero_le _) (by omega) _ hseq

end Go.Proofs
namespace Go.Proofs.YtocligpfmfmihabGreatDoor
open Go Go.RowKit Go.Maps Go.WideMaps Go.Sort Go.Shelf

theorem sorted_keys {m : List (Bs × Value)} {ss : List (List UInt8)} (hm : Srt m) (h : ss.Perm (strKeys (dm m))) : ss.mergeSort (fun x y => decide (x ≤ y)) = m.map (·.1) := by
  have e : strKeys (dm m) = m.map (·.1) := by
    simp [strKeys, dm, strOf, Function.comp]
  rw [e] at h
  refine List.Perm.eq_of_pairwise (le := fun a b : List UInt8 => decide (a ≤ b) = true) ?_ ?_ ?_ ((List.mergeSort_perm _ _).trans h)
  · intro a b _ _ h1 h2
    exact List.le_antisymm (of_decide_eq_true h1) (of_decide_eq_true h2)
  · refine List.pairwise_mergeSort ?_ ?_ _
    · intro a b c h1 h2
      exact decide_eq_true (List.le_trans (of_decide_eq_true h1) (of_decide_eq_true h2))
    · intro a b
      rcases List.le_total a b with h | h <;> simp [h]
  · refine List.pairwise_map.2 (hm.imp ?_)
    intro a b hab
    exact decide_eq_true (List.le_of_lt hab)

/-- What a round must keep: rows that are no bytes but for two variables; maps that were there. -/
def KpM (n0 ob fb : Nat) (W W' : World) : Prop := W.heap.size ≤ W'.heap.size ∧ (∀ k c t fz, W.heap[k]? = some (.cells c t fz) → t ≠ 5 → k ≠ ob → k ≠ fb → W'.heap[k]? = W.heap[k]?) ∧ (∀ k es cl, k < n0 → W.heap[k]? = some (.map es cl) → W'.heap[k]? = W.heap[k]?)
theorem KpM.t {n0 ob fb : Nat} {A B C : World} (h : KpM n0 ob fb A B) (k : KpM n0 ob fb B C) : KpM n0 ob fb A C := by
  refine ⟨Nat.le_trans h.1 k.1, ?_, ?_⟩
  · intro i c t fz h1 h2 h3 h4
    have e := h.2.1 i c t fz h1 h2 h3 h4
    exact (k.2.1 i c t fz (e.trans h1) h2 h3 h4).trans e
  · intro i es cl h0 h1
    have e := h.2.2 i es cl h0 h1
    exact (k.2.2 i es cl h0 (e.trans h1)).trans e
theorem KpM.b {n0 ob fb : Nat} {w : World} (hn : n0 ≤ w.heap.size) (W : World) (l : Nat) (o o' : Obj) (hl : w.heap.size ≤ l) (h : W.heap[l]? = some o) (hc : o.isCells = false) (_ : o.isWalk = false) : KpM n0 ob fb W (W.putObj l o') := by
  have hg := grownBy_putObj' W l o'
  refine ⟨hg.size, ?_, ?_⟩
  · intro i c t fz h1 _ _ _
    refine hg.block i (lt_heap h1) ?_
    intro e
    injection e with e
    subst e
    rw [h] at h1
    injection h1 with h1
    subst h1
    cases hc
  · intro i es cl h0 h1
    exact hg.block i (lt_heap h1) (by intro e; injection e with e; omega)

attribute [local go_sem] Oper.semAt_some
/-- The members, one by one: the key and the value. -/
def encM (m : List (Bs × Value)) (i : Fin m.length) : Array Value := #[.string ⟨m[i].1.toArray⟩, m[i].2]

theorem look_nth : ∀ (m : List (Bs × Value)) (_ : Srt m) (k : Nat) (hk : k < m.length), lookK m[k].1 m = some m[k].2
  | (a, x) :: l, hm, 0, _ => by simp [lookK]
  | (a, x) :: l, hm, k + 1, hk => by
    obtain ⟨h1, h2⟩ := List.pairwise_cons.1 hm
    have hk' : k < l.length := by simpa using hk
    have h3 := h1 l[k] (List.getElem_mem hk')
    simp only [List.getElem_cons_succ, lookK]
    rw [if_neg (by intro e; rw [← e] at h3; exact lt_irr _ h3)]
    exact look_nth l h2 k hk'
theorem key_mk2 {o : List UInt8} (h : o.length ≤ 139000000000000) : keyOf Tryz.prog 9 (.string ⟨o.toArray⟩) = some (.string o) := by
  have := keyOf_string_mk (P := Tryz.prog) Tryz.underlying9 (s := ⟨o.toArray⟩) (by unfold maxLen; show o.toArray.size ≤ _; simp; omega)
  simpa using this
theorem slice_shape {w : World} {B : Nat} {e : TypeId} {v : Value} {n : Nat} {xs : List Value} (h : w.ownsRow B e 1 v n xs) : ∃ sa cap g cur, v = .slice sa n cap ∧ (0 < n → sa = some ⟨g, 0, none⟩ ∧ B ≤ g ∧ w.heap[g]? = some (.cells cur e) ∧ n ≤ cap ∧ ∀ k, k < n → cur[k]? = xs[k]?) := by
  obtain ⟨hl, ⟨rfl, rfl⟩ | ⟨g, cap, cur, rfl, h1, h2, h3, _, _, h6⟩⟩ := h
  · exact ⟨none, 0, 0, #[], rfl, fun h => absurd h (by omega)⟩
  · refine ⟨_, cap, g, cur, rfl, fun _ => ⟨rfl, h1, h2, h3, ?_⟩⟩
    intro k hk
    rw [← h6, List.getElem?_take_of_lt (by omega)]
    simp
theorem below_grown {A B : World} (h : RowKit.Below A.heap.size A B) : A.grownBy B none := ⟨h.os, h.tape, h.output, h.size, fun k hk _ => h.block k hk⟩

set_option maxRecDepth 20000 in
set_option maxHeartbeats 1000000 in
theorem members1 (n : Nat) (hn : 3 ≤ n) (lr bx b n0 ob fb : Nat) (m : List (Bs × Value)) (hm : Srt m) (hml : m.length ≤ 1000000) (hkl : ∀ p ∈ m, p.1.length ≤ 139000000000000) (hif : ∀ p ∈ m, ∃ t u, p.2 = .iface t u) (J Jx : List (Fin m.length) → World → Prop)
    (W : World) (hJ : AbidesFrom W.heap.size J)
    (hY : ∀ pre x W1, J pre W1 → pre.length < m.length → YieldAt Fence.wide (n - 1) Tryz.prog lr (encM m x) W1 fun e W' =>
      (e = .returned (.bool true) ∧ J (pre ++ [x]) W' ∧ KpM n0 ob fb W1 W') ∨ (e = .returned (.bool false) ∧ Jx (pre ++ [x]) W'))
    (hbx : W.heap[bx]? = some (.cells #[.map (some b)] 76)) (hbo : bx ≠ ob ∧ bx ≠ fb) (hob : ob < W.heap.size ∧ fb < W.heap.size) (hown : W.ownsMap Tryz.prog 9 Rv b m.length (dm m)) (hbn : b < n0) (h0 : J [] W) :
    CallsIn Fence.wide n Tryz.prog 148 #[.func (.yield lr) #[] #[], .pointer (some ⟨bx, 0, none⟩)] W fun e W' => (∃ v, e = .returned v) ∧
      ((∃ xs, xs = List.finRange m.length ∧ J xs W') ∨ (∃ pre, True ∧ Jx pre W')) := by
  obtain ⟨cx, fx⟩ := one_cells hbx
  have hsz : Maps.size (dm m) = m.length := dm_size m
  refine callsIn_of_wp Tryz.func148 rfl trivial ?_ rfl
  simp only [Tryz.ntmps148, List.size_toArray, List.length_cons, List.length_nil, Nat.reduceAdd, Nat.reduceSub, Array.replicate_succ, Array.replicate_zero, List.push_toArray, List.append_toArray, List.nil_append, List.cons_append]
  have h1n : 1 ≤ n := by omega
  have hfK : Fence.wide.fn 150 := trivial
  have hfS : Fence.wide.fn 149 := trivial
  gi_wp2_with (first
    | (gi_at_call 150; refine (callsIn_wide.2 (callsIn_wide.1 (Tryz.maps_Keys_150 _ _))).mono ?_; rintro e w' ⟨rfl, rfl⟩)
    | (gi_at_call 149; refine (callsIn_wide.2 (callsIn_wide.1 (Tryz.slices_Sorted_keys_149_150 b m.length (dm m) Rv W hown (by rw [hsz]; unfold maxLen; omega) (by rw [hsz]; omega)))).mono ?_; rintro e w' ⟨v, ss, rfl, hS, hrow, hnil, hb⟩; obtain ⟨sa, cap, g, cur, rfl, hsa⟩ := slice_shape hrow))
  have hss : ss.length = m.length := by rw [hS.length_eq]; simp [strKeys, dm]
  rw [sorted_keys hm hS] at hsa
  have J2 : J [] w' := hJ [] _ _ none (hJ [] _ _ none h0 (World.grownBy_alloc W _ none) (fun r e => by cases e)) (below_grown hb) (fun r e => by cases e)
  have hbx2 : w'.heap[bx]? = some (.cells #[.map (some b)] 76) := (hb.block bx (by simp; have := lt_heap hbx; omega)).trans ((Below.heap_alloc _ _ _ (lt_heap hbx)).trans hbx)
  have hown2 : w'.ownsMap Tryz.prog 9 Rv b m.length (dm m) := ownsMap_heap hown ((hb.block b (by simp; have := hown.lt; omega)).trans (Below.heap_alloc _ _ _ hown.lt))
  have hgo : 0 < m.length → g ≠ ob ∧ g ≠ fb := by
    intro h
    rw [hss] at hsa
    have := (hsa h).2.1
    simp at this
    omega
  clear hrow hnil hS
  generalize ss.length = L at *
  subst hss
  have HS := hide (And.intro hsa hgo)
  clear hsa hgo hsz cx fx hb
  gi_wp2_with fail
  have hmm : (m.length : Int) ≤ 1000000 := by omega
  gi_loopw [9] (fun i wr => ∃ k : Nat, k ≤ m.length ∧ i = .int .i64 (k : Int) ∧ J ((List.finRange m.length).take k) wr ∧ wr.heap[bx]? = some (.cells #[.map (some b)] 76) ∧ (0 < m.length → wr.heap[g]? = some (.cells cur 9)) ∧ wr.ownsMap Tryz.prog 9 Rv b m.length (dm m)) (fun i _ => m.length - (intOf i).toNat)
  case atStart => exact ⟨0, by omega, rfl, by simpa using J2, hbx2, fun h => (HS.out.1 h).2.2.1, hown2⟩
  case round =>
    obtain ⟨k, hk, rfl, hJr, hbr, hgr, hor⟩ := hrel
    by_cases hlt : k < m.length
    · obtain ⟨rfl, hg1, hg2, hcap, hcur⟩ := HS.out.1 (by omega)
      have hgr' := hgr (by omega)
      obtain ⟨tt, u, hif'⟩ := hif m[k] (List.getElem_mem hlt)
      have hck : wr.cell? ⟨g, k, none⟩ = some (.string ⟨m[k].1.toArray⟩) := by
        have e1 := hcur k hlt
        simp only [List.getElem?_map, List.getElem?_eq_getElem hlt, Option.map_some] at e1
        simp [World.cell?, hgr', e1]
      have hlook : lookK m[k].1 m = some m[k].2 := look_nth m hm k hlt
      obtain ⟨lv, lps, hlk, hlr⟩ := hor.lookup keyed Tryz.underlying76 (zeroV wr) (R := Rv) (zd := .held .nilIface) (zp := []) rfl (key_mk2 (hkl m[k] (List.getElem_mem hlt)))
      have hlv : lv = .iface tt u := by
        rw [dm_at, hlook] at hlr
        simp only [Rv, Option.some.injEq, Prod.mk.injEq, DataW.held.injEq] at hlr
        rw [hlr.1, hif']
      rw [hlv] at hlk
      obtain ⟨cx, fx⟩ := one_cells hbr
      have htl : ((List.finRange m.length).take k).length < m.length := by simp; omega
      obtain ⟨fn, tmps, assign, body, hy, hR⟩ := hY _ ⟨k, hlt⟩ wr hJr htl
      simp only [encM, Fin.getElem_fin, hif'] at hy
      generalize m[k].1 = key at *
      have hlt' : decide ((k : Int) < (m.length : Int)) = true := by simp; omega
      have HX := hide (And.intro hbr (And.intro hgr' hor))
      clear hlook hlr hlv hif' hbr hgr hgr' hor hcur hg2
      have htk : (List.finRange m.length).take (k + 1) = (List.finRange m.length).take k ++ [⟨k, hlt⟩] := by
        rw [List.take_succ_eq_append_getElem (by simpa using hlt)]
        simp
      have HT := hide htk
      clear htk
      gi_wp2
      refine hR.mono ?_
      rintro e W3 (⟨rfl, hJ3, hk3⟩ | ⟨rfl, hJx3⟩)
      · have hx1 := hk3.2.1 bx _ _ _ HX.out.1 (by decide) hbo.1 hbo.2
        have hx2 := hk3.2.1 g _ _ _ HX.out.2.1 (by decide) (HS.out.2 (by omega)).1 (HS.out.2 (by omega)).2
        have hx3 : W3.ownsMap Tryz.prog 9 Rv b m.length (dm m) := by
          obtain ⟨es, cl, q1, q2⟩ := HX.out.2.2
          exact ⟨es, cl, (hk3.2.2 b es cl hbn q1).trans q1, q2⟩
        have HZ := hide (And.intro (hx1.trans HX.out.1) (And.intro (hx2.trans HX.out.2.1) hx3))
        clear hx1 hx2 hx3
        gi_wp2
        go_roundw
        case rel => exact ⟨k + 1, by omega, int_i64 (by omega), by rw [HT.out]; exact hJ3, HZ.out.1, fun _ => HZ.out.2.1, HZ.out.2.2⟩
        case measure => simp [intOf]; omega
      · gi_wp2
        refine bodyPost_ret (results_none rfl _ _ _) rfl ?_
        exact ⟨⟨_, rfl⟩, .inr ⟨_, trivial, hJx3⟩⟩
    · have hlt' : decide ((k : Int) < (m.length : Int)) = false := by simp; omega
      gi_wp2
      go_end0
      refine ⟨⟨_, rfl⟩, .inl ⟨_, rfl, ?_⟩⟩
      have e1 : (List.finRange m.length).take k = List.finRange m.length := List.take_of_length_le (by simp; omega)
      rw [e1] at hJr
      exact hJr
end Go.Proofs.YtocligpfmfmihabGreatDoor

import Derived.Test.YtocligpfmfmihaaGreatDoorMapsG
import Derived.Test.YtocligpfmfmihaaGreatDoorRef20G
import Derived.Test.YtocligpfmfmihaaGreatDoorRows
import Derived.WalkKit
import Derived.WalkSpells
import Derived.WalkLawsBesides
import Derived.ProofKit
import Derived.OpenShut
import Derived.ShutString
import Derived.Laws.IdiomStrings
namespace Go.Proofs.YtocligpfmfmihaaGreatDoor
open Go Go.RowKit Go.Maps Go.WideMaps
def tot : List (Bs × J) → Nat
 | [] => 0
 | p :: l => (cMem p).length + 1 + tot l
theorem tot_join : ∀ (l : List (Bs × J)), (joinC (l.map cMem)).length ≤ tot l ∧ tot l ≤ (joinC (l.map cMem)).length + 1
 | [] => by simp [tot, joinC]
 | [p] => by simp only [tot, List.map_cons, List.map_nil, joinC]; omega
 | p :: q :: l => by
  have h := tot_join (q :: l)
  simp only [tot, List.map_cons, joinC, List.length_append, List.length_cons] at h ⊢
  omega
theorem tot_ins (k : Bs) (x : J) : ∀ (l : List (Bs × J)), tot (insK k x l) ≤ tot l + (cMem (k, x)).length + 1
 | [] => by simp only [insK, tot]; omega
 | (a, y) :: l => by
  have ih := tot_ins k x l
  rw [insK]
  split
  ·simp only [tot]; omega
  ·split
   ·simp only [tot]; omega
   ·simp only [tot]; omega
theorem cJ_tot (l : List (Bs × J)) : (cJ (.obj l)).length ≤ tot l + 2 ∧ tot l ≤ (cJ (.obj l)).length := by
 have h := tot_join l
 rw [cJ_obj]
 simp only [List.length_cons, List.length_append, List.length_nil]
 omega
theorem tot_del (k : Bs) : ∀ (l : List (Bs × J)), tot (delK k l) ≤ tot l
 | [] => by simp [delK, tot]
 | (a, y) :: l => by
  have ih := tot_del k l
  unfold delK at ih ⊢
  by_cases e : a = k
  ·simp only [e, decide_true, Bool.not_true, Bool.false_eq_true, not_false_iff, List.filter_cons_of_neg, tot]
   omega
  ·simp only [e, decide_false, Bool.not_false, List.filter_cons_of_pos, tot]
   omega
theorem tot_child (k : Bs) (l : List (Bs × J)) : tot (childF k l) ≤ tot l := by
 unfold childF
 split
 ·rename_i m hm
  have h1 := lookK_mem hm
  have h2 : ∀ (l : List (Bs × J)) (p : Bs × J), p ∈ l → (cMem p).length ≤ tot l := by
   intro l
   induction l with
   | nil => intro p hp; cases hp
   | cons q l ih =>
    intro p hp
    rw [tot]
    rcases List.mem_cons.1 hp with rfl | hp
    ·omega
    ·have := ih p hp; omega
  have h3 := h2 l _ h1
  have h4 := (cJ_tot m).2
  simp only [cMem, List.length_append, List.length_cons] at h3
  omega
 ·simp [tot]
theorem cntm_ins (k : Bs) (x : J) : ∀ (l : List (Bs × J)), cntm (insK k x l) ≤ cntm l + 1 + cnt x
 | [] => by simp only [insK, cntm]; omega
 | (a, y) :: l => by
  have ih := cntm_ins k x l
  rw [insK]
  split
  ·simp only [cntm]; omega
  ·split
   ·simp only [cntm]; omega
   ·simp only [cntm]; omega
theorem cB_le (c : UInt8) : (cB c).length ≤ 6 := by
 unfold cB
 repeat' split
 all_goals simp
theorem cStr_le (s : Bs) : (cStr s).length ≤ 6 * s.length + 2 := by
 have h : ∀ (l : Bs), (l.flatMap cB).length ≤ 6 * l.length := by
  intro l
  induction l with
  | nil => simp
  | cons c l ih =>
   have := cB_le c
   simp only [List.flatMap_cons, List.length_append, List.length_cons]
   omega
 have := h s
 simp only [cStr, List.length_cons, List.length_append, List.length_nil]
 omega
theorem object_ok {s : Bs} {l : List (Bs × J)} (h : objectF s = .ok l) : parse s = some (.obj l) ∧ s.length ≤ 600 := by
 unfold objectF valueF at h
 by_cases hl : 600 < s.length
 ·rw [if_pos hl] at h
  cases h
 ·rw [if_neg hl] at h
  cases hp : parse s with
  | none => rw [hp] at h; cases h
  | some j =>
   rw [hp] at h
   cases j with
   | obj m => simp at h; subst h; exact ⟨rfl, by omega⟩
   | null => cases h
   | bool _ => cases h
   | num _ => cases h
   | str _ => cases h
   | arr _ => cases h
end Go.Proofs.YtocligpfmfmihaaGreatDoor
namespace Go.Proofs.YtocligpfmfmihaaGreatDoor
open Go Go.RowKit Go.Maps
theorem sumM_filter {α : Type} (f : α → Bs) (p : α → Bool) (l : List α) : sumM f (l.filter p) ≤ sumM f l := by
 unfold sumM
 induction l with
 | nil => simp
 | cons a l ih =>
  rw [List.filter_cons]
  split
  ·simp only [List.map_cons, List.sum_cons]
   omega
  ·simp only [List.map_cons, List.sum_cons]
   omega
theorem filter_len (p : Bs × J → Bool) (l : List (Bs × J)) : (joinC ((l.filter p).map cMem)).length ≤ (joinC (l.map cMem)).length := by
 have h1 := joinC_len cMem (l.filter p)
 have h2 := joinC_len cMem l
 have h3 := sumM_filter cMem p l
 by_cases hf : l.filter p = []
 ·rw [hf]
  simp [joinC]
 ·have hl : l ≠ [] := by rintro rfl; exact hf rfl
  rw [if_neg hf] at h1
  rw [if_neg hl] at h2
  omega
theorem bare_len (l : List (Bs × J)) : (cJ (.obj (bareL l))).length ≤ (cJ (.obj l)).length := by
 rw [cJ_obj, cJ_obj, bareL]
 have h1 := filter_len (fun p => !decide (p.1 = kUns)) (delK kSig l)
 have h2 := filter_len (fun p => !decide (p.1 = kSig)) l
 simp only [List.length_cons, List.length_append, List.length_nil]
 unfold delK at h1 ⊢
 omega
theorem rbareJ {w w0 : World} {F : Nat → Prop} {l : List (Bs × J)} {b : Nat} (h : RR w F (.obj l) b) (hF : ∀ k, F k → k < w.heap.size) (hlen : (cJ (.obj l)).length ≤ 1000000) (hk : Kp (fun _ => False) w w0) :
  Calls Tryz.prog 42 #[.pointer (some ⟨b, 0, none⟩)] w0 fun e w' => e = .returned (.string ⟨(bareF l).toArray⟩) ∧ Kp (fun _ => False) w0 w' := by
 generalize hJ : J.obj l = j at h
 cases h with
 | obj x K L hFb h hK hL hG hH hN hx =>
  injection hJ with hJ
  have h' := vkp h hk
  have hK' := ownsRow_kp hK hk (by simp)
  have hL' := ownsRow_kp hL hk (by simp)
  have hcnt := joinC_cnt ((ofL (x.map fun p => (p.1, p.2.1))).map cMem)
  have hol := ofL_len _ hN
  have hlen0 := hlen
  rw [hJ, cJ_obj] at hlen
  simp only [List.length_cons, List.length_append, List.length_nil, List.length_map] at hlen hcnt hol
  have hxl : x.length ≤ 1000000 := by omega
  have hbare : ofL ((x.filter fun p => keepB (p.1, p.2.2)).map fun p => (p.1, p.2.1)) = bareL l := by
   rw [bareL, hJ, ← ofL_filter, ← ofL_filter]
   congr 1
   rw [List.filter_filter]
   rw [List.filter_map]
   congr 1
   apply List.filter_congr
   intro p _
   simp only [keepB, Function.comp]
   rw [Bool.and_comm]
  have hlen2 : (cJ (.obj (bareL l))).length ≤ 1000000000 := by
   have hb := bare_len l
   have hl3 : (cJ (.obj l)).length ≤ 1000000 := hlen0
   omega
  refine (rbare_c w0 b (x.map fun p => (p.1, p.2.2)) K L h' (by simpa [List.map_map, Function.comp_def] using hK') (by simpa [List.map_map, Function.comp_def] using hL') (by simpa using hxl) (.obj (bareL l)) ?_)
  intro K' L' w1 K1 A1
  have hfm : (x.map fun p => (p.1, p.2.2)).filter keepB = (x.filter fun p => keepB (p.1, p.2.2)).map fun p => (p.1, p.2.2) := by
   rw [List.filter_map]
   rfl
  rw [hfm] at A1
  have hs := hk.size
  have hs1 := K1.size
  have tr : RR w1 (fun c => c < w1.heap.size) (.obj (ofL ((x.filter fun p => keepB (p.1, p.2.2)).map fun p => (p.1, p.2.1)))) w0.heap.size := by
   refine .obj (x.filter fun p => keepB (p.1, p.2.2)) K' L' (lt_heap A1.blk) A1.blk ?_ ?_ (fun k hk => (A1.rowK.lt k hk).2) (fun k hk => (A1.rowL.lt k hk).2) ?_ ?_
   ·have := ownsRow_zero A1.rowK
    simpa [List.map_map, Function.comp_def] using this
   ·have := ownsRow_zero A1.rowL
    simpa [List.map_map, Function.comp_def] using this
   ·have hsub : ((x.filter fun p => keepB (p.1, p.2.2)).map fun p => (p.1, p.2.1)).Sublist (x.map fun p => (p.1, p.2.1)) := List.filter_sublist.map _
    unfold Nod at hN ⊢
    exact (hsub.map (fun q : Bs × J => q.1)).nodup hN
   ·intro a i c hm
    exact (hx a i c (List.mem_filter.1 hm).1).frame (fun k hk2 => (K1.block k (by have := hF k hk2; omega) (by simp)).trans (hk.block k (hF k hk2) (by simp))) (fun k hk2 => by have := hF k hk2; omega)
  rw [hbare] at tr
  exact rtextJ tr hlen2 w1 (Kp.refl _ _)
 | _ => cases hJ
set_option maxRecDepth 20000 in
theorem rmessage_c (W : World) (hG : GL W) (s : ByteArray) (w : World) (ho : Below W.heap.size W w) :
  Calls Tryz.prog 17 #[.string s] w fun e w' => e = .returned (.tuple #[.string ⟨(messageF s.data.toList).1.toArray⟩, .int .i64 ((messageF s.data.toList).2 : Int)]) ∧ Kp (fun _ => False) w w' := by
 go_enter Tryz.func17, Tryz.ntmps17
 go_wp2_with fail
 refine (robject_c W hG s w ho).mono ?_
 rintro e w1 ⟨K1, ⟨n, hn, hof, rfl⟩ | ⟨o, b, hof, hle, rfl, hr⟩⟩
 ·have HC : Hid (messageF s.data.toList = ([], n)) := by show _ = _; unfold messageF; rw [hof]; rfl
  have hn' : ((n : Int) != 0) = true := by simp; omega
  clear hof
  go_wp2
  go_ret2
  exact ⟨by rw [HC.out]; rfl, K1⟩
 ·have HC : Hid (messageF s.data.toList = (bareF o, 0)) := by show _ = _; unfold messageF; rw [hof]; rfl
  have HB := hide (rbareJ (w0 := w1) hr (fun k hk => hk.2) (by omega) (Kp.refl _ _))
  clear hof hr hle
  go_wp2_with fail
  refine HB.out.mono ?_
  rintro e w2 ⟨rfl, K2⟩
  go_wp2
  go_ret2
  exact ⟨by rw [HC.out]; rfl, K1.trans K2⟩
end Go.Proofs.YtocligpfmfmihaaGreatDoor
namespace Go.Proofs.YtocligpfmfmihaaGreatDoor
open Go.ChangeShapes Go.WideShapes Go.ChangeAt Go.RowKit
def stepU (h : Int) (b : UInt8) : Int := bits .xor .u32 h ((b.toNat : Int) % 4294967296) * 16777619 % 4294967296
def mixF (h : Int) (l : List UInt8) : Int := l.foldl stepU h
theorem take_snoc (s : ByteArray) (k : Nat) (h : k < s.size) : s.data.toList.take (k + 1) = s.data.toList.take k ++ [s[k]] := by
 rw [List.take_succ_eq_append_getElem (by simpa using h)]; rfl
theorem mixF_snoc (h : Int) (l : List UInt8) (b : UInt8) : mixF h (l ++ [b]) = stepU (mixF h l) b := by
 simp [mixF]
theorem stepU_bd (h : Int) (b : UInt8) : 0 ≤ stepU h b ∧ stepU h b < 4294967296 := by
 unfold stepU; generalize bits .xor .u32 h ((b.toNat : Int) % 4294967296) = q; omega
theorem mixF_bd (l : List UInt8) : ∀ h : Int, 0 ≤ h → h < 4294967296 → 0 ≤ mixF h l ∧ mixF h l < 4294967296 := by
 induction l with
 | nil => intro h a b; exact ⟨a, b⟩
 | cons x l ih => intro h _ _; exact ih _ (stepU_bd h x).1 (stepU_bd h x).2
theorem mixF_append (h : Int) (l m : List UInt8) : mixF h (l ++ m) = mixF (mixF h l) m := by
 simp [mixF]
theorem ret_int {k : IntKind} {a b : Int} (h : a = b) : Ending.returned (.int k a) = .returned (.int k b) := by rw [h]
set_option maxHeartbeats 1000000 in
theorem mix_any (h : Int) (s : ByteArray) (w : World) (hs : s.size ≤ 1073741824) :
  Calls Tryz.prog 94 #[.int .u32 h, .string s] w fun e w' => e = .returned (.int .u32 (mixF h s.data.toList)) ∧ Below w.heap.size w w' := by
 have kc := fun (w : World) => run_bytes_of_string (P := Tryz.prog) w 9 124 5 s Tryz.underlying9 Tryz.underlying124 Tryz.underlying5
 go_enter Tryz.func94, Tryz.ntmps94
 go_wp2
 go_loop [0, 10] (fun a i => ∃ k : Nat, k ≤ s.size ∧ i = .int .i64 k ∧ a = .int .u32 (mixF h (s.data.toList.take k))) (fun _ i => s.size - (intOf i).toNat)
 case atStart => exact ⟨0, Nat.zero_le _, rfl, rfl⟩
 case round =>
  obtain ⟨k, hk, rfl, rfl⟩ := hrel
  by_cases hlt : k < s.size
  ·have hcl : (w.alloc (Obj.cells (bytesRow s (grownCap w s.size 0 5)) 5 ((bytesRow s (grownCap w s.size 0 5)).size, (bytesRow s (grownCap w s.size 0 5)).size + 1))).cell? ⟨w.heap.size, k, none⟩ = some (.int .u8 (s[k].toNat : Int)) := by
    rw [World.cell?_alloc_mark, bytesRow_at s _ k hlt]; rfl
   have HS : Hid (mixF h (s.data.toList.take (k + 1)) = stepU (mixF h (s.data.toList.take k)) s[k]) := by
    rw [take_snoc s k hlt]; exact mixF_snoc _ _ _
   clear kc
   generalize mixF h (s.data.toList.take k) = m at HS ⊢
   go_wp2
   refine ⟨⟨k + 1, by omega, by go_num, ?_⟩, by simp [intOf]; omega⟩
   rw [HS.out]; rfl
  ·clear kc
   go_wp2
   go_ret
   exact ⟨ret_int (by rw [List.take_of_length_le (by simp; omega)]), ((Below.refl _ _).alloc (Nat.le_refl _) _).drew⟩
def shN (h : Int) : Nat → Int
 | 0 => h
 | k + 1 => shN h k * 16 % 4294967296
theorem shN_bd (h : Int) (h0 : 0 ≤ h) (h1 : h < 4294967296) : ∀ k, 0 ≤ shN h k ∧ shN h k < 4294967296
 | 0 => ⟨h0, h1⟩
 | k + 1 => by unfold shN; generalize shN h k = q; omega
def digB (m : Int) : UInt8 := [(48 : UInt8), 49, 50, 51, 52, 53, 54, 55, 56, 57, 97, 98, 99, 100, 101, 102].getD (m / 268435456).toNat 0
theorem digB_at (m : Int) (h : (m / 268435456).toNat < (ByteArray.mk #[48, 49, 50, 51, 52, 53, 54, 55, 56, 57, 97, 98, 99, 100, 101, 102]).size) :
  (ByteArray.mk #[48, 49, 50, 51, 52, 53, 54, 55, 56, 57, 97, 98, 99, 100, 101, 102])[(m / 268435456).toNat]'h = digB m := by
 have h' : (m / 268435456).toNat < 16 := h
 unfold digB
 rw [List.getD_eq_getElem?_getD, List.getElem?_eq_getElem h']
 rfl
def rowN (h : Int) : Nat → Array Value
 | 0 => #[.int .u8 0, .int .u8 0, .int .u8 0, .int .u8 0, .int .u8 0, .int .u8 0, .int .u8 0, .int .u8 0]
 | k + 1 => (rowN h k).setIfInBounds k (.int .u8 ((digB (shN h k)).toNat : Int))
theorem rowN_size (h : Int) : ∀ k, (rowN h k).size = 8
 | 0 => rfl
 | k + 1 => by unfold rowN; rw [Array.size_setIfInBounds]; exact rowN_size h k
theorem rowN_at (h : Int) : ∀ k, k ≤ 8 → ∀ j, j < k → (rowN h k)[j]? = some (.int .u8 ((digB (shN h j)).toNat : Int))
 | 0, _, j, hj => by omega
 | k + 1, hk, j, hj => by
  unfold rowN
  rw [Array.getElem?_setIfInBounds]
  by_cases e : k = j
  ·subst e; rw [if_pos rfl, if_pos (by rw [rowN_size]; omega)]
  ·rw [if_neg e]; exact rowN_at h k (by omega) j (by omega)
def hexL (h : Int) : List UInt8 := (List.range 8).map fun k => digB (shN h k)
set_option maxHeartbeats 1000000 in
theorem hexDigits_any (h : Int) (w : World) (h0 : 0 ≤ h) (h1 : h < 4294967296) :
  Calls Tryz.prog 95 #[.int .u32 h] w fun e w' => e = .returned (.string ⟨(hexL h).toArray⟩) ∧ Below w.heap.size w w' := by
 have hback : (convert 124 9 (.slice (some ⟨w.heap.size, 0, none⟩) 8 8)).run Tryz.prog (w.alloc (.cells (rowN h 8) 277)) = .ok (.string ⟨(hexL h).toArray⟩) (w.alloc (.cells (rowN h 8) 277)) := by
  refine run_convert_bytes_back (P := Tryz.prog) (w.alloc (.cells (rowN h 8) 277)) 124 9 5 ⟨w.heap.size, 0, none⟩ 8 (hexL h) Tryz.underlying124 Tryz.underlying5 Tryz.underlying9 ?_
  intro j hj
  have hj' : j < 8 := by simpa [hexL] using hj
  have e : (w.alloc (.cells (rowN h 8) 277)).cell? ⟨w.heap.size, j, none⟩ = (rowN h 8)[j]? := World.cell?_alloc_mark w _ _ _ _
  have e2 : Addr.add ⟨w.heap.size, 0, none⟩ j = ⟨w.heap.size, j, none⟩ := by cases j <;> simp [Addr.add]
  rw [e2, e, rowN_at h 8 (Nat.le_refl _) j hj']
  simp [hexL]
 go_enter Tryz.func95, Tryz.ntmps95
 go_wp2
 go_loopw [0, 5] (fun a i wr => ∃ k : Nat, k ≤ 8 ∧ i = .int .i64 k ∧ a = .int .u32 (shN h k) ∧ wr = w.alloc (.cells (rowN h k) 277)) (fun _ i _ => 8 - (intOf i).toNat)
 case atStart => exact ⟨0, Nat.zero_le _, rfl, rfl, rfl⟩
 case round =>
  obtain ⟨k, hk, rfl, rfl, rfl⟩ := hrel
  by_cases hlt : k < 8
  ·have hb := shN_bd h h0 h1 k
   have hz := rowN_size h k
   have HS : Hid (shN h (k + 1) = shN h k * 16 % 4294967296) := rfl
   have HR : Hid (rowN h (k + 1) = (rowN h k).setIfInBounds k (.int .u8 ((digB (shN h k)).toNat : Int))) := rfl
   clear hback
   generalize shN h k = m at hb HS HR ⊢
   generalize rowN h k = C at hz HR ⊢
   go_wp2
   refine ⟨⟨k + 1, by omega, by go_num, by rw [HS.out], ?_⟩, by simp [intOf]; omega⟩
   rw [HR.out, digB_at]
  ·obtain rfl : k = 8 := by omega
   go_wp2
   go_ret
   exact ⟨rfl, (Below.refl _ _).alloc (Nat.le_refl _) _⟩
theorem ext1 (m : Int) (h : 0 ≤ m) (h' : m < 4294967296) : (ByteArray.mk #[48, 49, 50, 51, 52, 53, 54, 55, 56, 57, 97, 98, 99, 100, 101, 102]).extract (m / 268435456).toNat ((m / 268435456).toNat + 1) = ⟨#[digB m]⟩ := by
 have h2 : (m / 268435456).toNat < 16 := by omega
 unfold digB
 generalize (m / 268435456).toNat = n at *
 have : ∀ n < 16, (ByteArray.mk #[48, 49, 50, 51, 52, 53, 54, 55, 56, 57, 97, 98, 99, 100, 101, 102]).extract n (n + 1) = ⟨#[[(48 : UInt8), 49, 50, 51, 52, 53, 54, 55, 56, 57, 97, 98, 99, 100, 101, 102].getD n 0]⟩ := by decide
 exact this n h2
def outN (h : Int) (k : Nat) : ByteArray := ⟨((List.range k).map fun j => digB (shN h j)).toArray⟩
theorem outN_succ (h : Int) (k : Nat) : outN h (k + 1) = outN h k ++ ⟨#[digB (shN h k)]⟩ := by
 apply ByteArray.ext
 simp [outN, List.range_succ]
set_option maxHeartbeats 1000000 in
theorem refSeal_core (a b r : ByteArray) (w : World) (ha : a.size ≤ 1073741824) (hb : b.size ≤ 1073741824)
  (HR : Hid (r = ⟨(hexL (mixF 2166136261 (a ++ ⟨#[10]⟩ ++ b).data.toList)).toArray⟩)) :
  Calls Tryz.prog 49 #[.string a, .string b] w fun e w' => e = .returned (.string r) ∧ w' = w := by
 have hsz : (a ++ ⟨#[10]⟩ ++ b).size ≤ 2147483649 := by
  rw [ByteArray.size_append, ByteArray.size_append]; show a.size + 1 + b.size ≤ _; omega
 go_enter Tryz.func49, Tryz.ntmps49
 go_wp2
 generalize a ++ ByteArray.mk #[10] ++ b = s at hsz HR ⊢
 go_loop [5, 7] (fun x i => ∃ k : Nat, k ≤ s.size ∧ i = .int .i64 k ∧ x = .int .u32 (mixF 2166136261 (s.data.toList.take k))) (fun _ i => s.size - (intOf i).toNat)
 case atStart => exact ⟨0, Nat.zero_le _, rfl, rfl⟩
 case round =>
  obtain ⟨k, hk, rfl, rfl⟩ := hrel
  by_cases hlt : k < s.size
  ·have HS : Hid (mixF 2166136261 (s.data.toList.take (k + 1)) = stepU (mixF 2166136261 (s.data.toList.take k)) s[k]) := by
    rw [take_snoc s k hlt]; exact mixF_snoc _ _ _
   generalize mixF 2166136261 (s.data.toList.take k) = m at HS ⊢
   go_wp2
   refine ⟨⟨k + 1, by omega, by go_num, ?_⟩, by simp [intOf]; omega⟩
   rw [HS.out]; rfl
  ·have e1 : s.data.toList.take k = s.data.toList := List.take_of_length_le (by simp; omega)
   rw [e1]
   have hbd := mixF_bd s.data.toList 2166136261 (by omega) (by omega)
   clear e1
   generalize mixF 2166136261 s.data.toList = h at hbd HR ⊢
   go_wp2
   go_loop [5, 9, 10] (fun x o i => ∃ k : Nat, k ≤ 8 ∧ i = .int .i64 k ∧ x = .int .u32 (shN h k) ∧ o = .string (outN h k)) (fun _ _ i => 8 - (intOf i).toNat)
   case atStart => exact ⟨0, Nat.zero_le _, rfl, rfl, rfl⟩
   case round =>
    obtain ⟨j, hj, rfl, rfl, rfl⟩ := hrel
    by_cases hlj : j < 8
    ·have hbj := shN_bd h hbd.1 hbd.2 j
     have HX : Hid ((ByteArray.mk #[48, 49, 50, 51, 52, 53, 54, 55, 56, 57, 97, 98, 99, 100, 101, 102]).extract (shN h j / 268435456).toNat (shN h j / 268435456 + 1).toNat = ⟨#[digB (shN h j)]⟩) := by
      have := ext1 (shN h j) hbj.1 hbj.2
      have e : (shN h j / 268435456 + 1).toNat = (shN h j / 268435456).toNat + 1 := by omega
      rw [e]; exact this
     have HS : Hid (shN h (j + 1) = shN h j * 16 % 4294967296) := rfl
     have HO : Hid (outN h (j + 1) = outN h j ++ ⟨#[digB (shN h j)]⟩) := outN_succ h j
     have hos : (outN h j).size = j := by simp [outN, ByteArray.size]
     generalize shN h j = m at hbj HX HS HO ⊢
     generalize outN h j = o at HO hos ⊢
     go_wp2
     refine ⟨⟨j + 1, by omega, by go_num, by rw [HS.out], ?_⟩, by simp [intOf]; omega⟩
     rw [HO.out, HX.out]
    ·obtain rfl : j = 8 := by omega
     go_wp2
     go_ret
     exact ⟨by rw [HR.out]; rfl, rfl⟩
theorem refSeal_any (a b : ByteArray) (w : World) (ha : a.size ≤ 1073741824) (hb : b.size ≤ 1073741824) :
  Calls Tryz.prog 49 #[.string a, .string b] w fun e w' => e = .returned (.string ⟨(hexL (mixF 2166136261 (a ++ ⟨#[10]⟩ ++ b).data.toList)).toArray⟩) ∧ w' = w :=
 refSeal_core a b _ w ha hb rfl
set_option maxHeartbeats 1000000 in
theorem seal_core (a b : ByteArray) (mf : Int → ByteArray → Int) (hf : Int → ByteArray) (w : World) (ha : a.size ≤ 1073741824) (hb : b.size ≤ 1073741824)
  (cm : ∀ h s wx, s.size ≤ 1073741824 → Calls Tryz.prog 94 #[.int .u32 h, .string s] wx fun e w' => e = .returned (.int .u32 (mf h s)) ∧ Below wx.heap.size wx w')
  (ch : ∀ wx, Calls Tryz.prog 95 #[.int .u32 (mf (mf (mf 2166136261 a) ⟨#[10]⟩) b)] wx fun e w' => e = .returned (.string (hf (mf (mf (mf 2166136261 a) ⟨#[10]⟩) b))) ∧ Below wx.heap.size wx w') :
  Calls Tryz.prog 52 #[.string a, .string b] w fun e w' => e = .returned (.string (hf (mf (mf (mf 2166136261 a) ⟨#[10]⟩) b))) ∧ Below w.heap.size w w' := by
 have h1 : (ByteArray.mk #[10]).size ≤ 1073741824 := by decide
 go_enter Tryz.func52, Tryz.ntmps52
 go_wp2_with (first | (go_at_call 94; refine (cm _ _ _ ?_).mono ?_; assumption; rintro e w1 ⟨rfl, hb1⟩) | (go_at_call 95; refine (ch _).mono ?_; rintro e w4 ⟨rfl, hb4⟩))
 go_ret
 rename_i x1 k1 x2 k2
 exact ⟨rfl, k1.trans ((k2.mono (k1.size)).trans ((hb1.mono (Nat.le_trans k1.size k2.size)).trans (hb4.mono (Nat.le_trans k1.size (Nat.le_trans k2.size hb1.size)))))⟩
theorem seals_same (a b : ByteArray) : mixF (mixF (mixF 2166136261 a.data.toList) [10]) b.data.toList = mixF 2166136261 (a ++ ⟨#[10]⟩ ++ b).data.toList := by
 rw [show (a ++ (ByteArray.mk #[10]) ++ b).data.toList = a.data.toList ++ [10] ++ b.data.toList by simp, mixF_append, mixF_append]
def sealF (a b : ByteArray) : ByteArray := ⟨(hexL (mixF 2166136261 (a ++ ⟨#[10]⟩ ++ b).data.toList)).toArray⟩
theorem sealF_eq (a b : ByteArray) : sealF a b = ⟨(hexL (mixF (mixF (mixF 2166136261 a.data.toList) [10]) b.data.toList)).toArray⟩ := by
 unfold sealF; rw [seals_same]
theorem seal_any (a b : ByteArray) (w : World) (ha : a.size ≤ 1073741824) (hb : b.size ≤ 1073741824) :
  Calls Tryz.prog 52 #[.string a, .string b] w fun e w' => e = .returned (.string (sealF a b)) ∧ Below w.heap.size w w' := by
 have b1 := mixF_bd a.data.toList 2166136261 (by omega) (by omega)
 have b2 := mixF_bd [10] _ b1.1 b1.2
 have b3 := mixF_bd b.data.toList _ b2.1 b2.2
 rw [sealF_eq]
 exact seal_core a b (fun h s => mixF h s.data.toList) (fun h => ⟨(hexL h).toArray⟩) w ha hb (fun h s wx hs => mix_any h s wx hs) (fun wx => hexDigits_any _ wx b3.1 b3.2)
end Go.Proofs.YtocligpfmfmihaaGreatDoor

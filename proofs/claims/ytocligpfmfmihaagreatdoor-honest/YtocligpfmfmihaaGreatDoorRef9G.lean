import Derived.Test.YtocligpfmfmihaaGreatDoorRef4G
import Derived.Test.YtocligpfmfmihaaGreatDoorParG
import Derived.Lib.AppendStr
import Derived.Lib.ConvBytes
import Derived.Lib.OthersKept
namespace Go.Proofs.YtocligpfmfmihaaGreatDoor
open Go Go.RowKit Go.Maps
variable {W w w' : World} {rb k : Nat} {s : ByteArray} {bad : Bool}
theorem own_slice {w : World} {B : Nat} {e : TypeId} {v : Value} {n : Nat} {xs : List Value} (h : w.ownsRow B e 1 v n xs) : ∃ a c, v = .slice a n c := by
 obtain ⟨_, ⟨rfl, rfl⟩ | ⟨g, cap, cur, rfl, _⟩⟩ := h
 ·exact ⟨_, _, rfl⟩
 ·exact ⟨_, _, rfl⟩
theorem own_cell {w : World} {B : Nat} {e : TypeId} {g n c : Nat} {xs : List Value} (h : w.ownsRow B e 1 (.slice (some ⟨g, 0, none⟩) n c) n xs) (i : Nat) (u : Value) (hu : xs[i]? = some u) : w.cell? ⟨g, i, none⟩ = some u := by
 have := h.cells (g := g) rfl i u hu
 rw [Addr.add_lit] at this
 simpa using this
end Go.Proofs.YtocligpfmfmihaaGreatDoor
namespace Go.Proofs.YtocligpfmfmihaaGreatDoor
open Go Go.RowKit Go.Maps Go.WideMaps
structure Wr (B : Nat) (w w' : World) : Prop where
 below : Below B w w'
 oth : Lib.OthersKept 5 none w w'
variable {B : Nat} {a w w' : World}
theorem Wr.refl (B : Nat) (w : World) : Wr B w w := ⟨Below.refl _ _, Lib.OthersKept.refl _ _ _⟩
theorem Wr.trans {b c : World} (h : Wr B a b) (k : Wr B b c) : Wr B a c := ⟨h.below.trans k.below, fun i o h1 h2 h3 => k.oth i o (h.oth i o h1 h2 h3) h2 h3⟩
theorem Wr.mono {C : Nat} (h : Wr B a w) (hC : C ≤ B) : Wr C a w := ⟨h.below.mono hC, h.oth⟩
theorem Wr.alloc (h : Wr B a w) (hB : B ≤ w.heap.size) (o : Obj) : Wr B a (w.alloc o) :=
 h.trans ⟨(Below.refl _ _).alloc hB o, fun i x h1 _ _ => by rw [Below.heap_alloc _ _ _ (lt_heap h1)]; exact h1⟩
theorem Wr.drewN (h : Wr B a w) (n : Nat) : Wr B a (w.drewN n) := ⟨below_drewN h.below n, h.oth⟩
theorem Wr.grown {v : Value} {n : Nat} {xs : List Value} (h : Wr B a w) (ho : w.ownsRow B 5 1 v n xs) (hg : w.grownBy w' v.ownBlock) (hB : B ≤ w.heap.size) : Wr B a w' := by
 refine h.trans ⟨(Below.refl _ _).grown hg hB (fun k hk => (ho.lt k hk).1), fun i o h1 _ h3 => ?_⟩
 rw [hg.block i (lt_heap h1) ?_]
 ·exact h1
 ·intro e
  obtain ⟨_, ⟨rfl, _⟩ | ⟨g, cap, cur, rfl, _, hh, _⟩⟩ := ho
  ·cases e
  ·injection e with e
   subst e
   rw [h1] at hh
   injection hh with hh
   exact h3 _ _ hh
def Row (B : Nat) (w : World) (v : Value) (o : List UInt8) : Prop := w.ownsRow B 5 1 v o.length (Lib.byteCells o)
theorem Row.old {v : Value} {o : List UInt8} (h : Row B w v o) (hW : ∀ k, v.ownBlock = some k → w'.heap[k]? = w.heap[k]?) : Row B w' v o := ownsRow_heap h hW
mutual
theorem Rep.oth {w w' : World} {F : Nat → Prop} (h : Lib.OthersKept 5 none w w') : ∀ (j : J) {v : Value}, Rep w F j v → Rep w' F j v
 | .null, _, hj => by rw [Rep] at hj ⊢; exact hj
 | .bool _, _, hj => by rw [Rep] at hj ⊢; exact hj
 | .num _, _, hj => by rw [Rep] at hj ⊢; exact hj
 | .str _, _, hj => by rw [Rep] at hj ⊢; exact hj
 | .arr l, _, hj => by
  rw [Rep] at hj ⊢
  obtain ⟨sv, vs, e, ⟨q1, q2⟩, h2, h3⟩ := hj
  refine ⟨sv, vs, e, ⟨q1, ?_⟩, h2, Reps.oth h l h3⟩
  rcases q2 with q | ⟨g, cap, cur, e1, e2, e3, e4⟩
  ·exact Or.inl q
  ·exact Or.inr ⟨g, cap, cur, e1, e2, h g _ e3 (by simp) (by intro c fz; simp), e4⟩
 | .obj l, _, hj => by
  rw [Rep] at hj ⊢
  obtain ⟨b, m, e, h1, ⟨es, clock, q1, q2⟩, h3⟩ := hj
  exact ⟨b, m, e, h1, ⟨es, clock, h b _ q1 (by simp) (by intro c fz; simp), q2⟩, Repm.oth h l h3⟩
theorem Reps.oth {w w' : World} {F : Nat → Prop} (h : Lib.OthersKept 5 none w w') : ∀ (l : List J) {vs : List Value}, Reps w F l vs → Reps w' F l vs
 | [], _, hj => by rw [Reps] at hj ⊢; exact hj
 | x :: l, _, hj => by
  rw [Reps] at hj ⊢
  obtain ⟨v, r, e, h1, h2⟩ := hj
  exact ⟨v, r, e, Rep.oth h x h1, Reps.oth h l h2⟩
theorem Repm.oth {w w' : World} {F : Nat → Prop} (h : Lib.OthersKept 5 none w w') : ∀ (l : List (Bs × J)) {m : List (Bs × Value)}, Repm w F l m → Repm w' F l m
 | [], _, hj => by rw [Repm] at hj ⊢; exact hj
 | (k, x) :: l, _, hj => by
  rw [Repm] at hj ⊢
  obtain ⟨v, r, e, h1, h2⟩ := hj
  exact ⟨v, r, e, Rep.oth h x h1, Repm.oth h l h2⟩
end
def WrR (B : Nat) (w : World) (o : List UInt8) (e : Ending) (w' : World) : Prop := ∃ v', e = .returned v' ∧ Row B w' v' o ∧ Wr B w w'
theorem strCells_eq (s : ByteArray) : Lib.strCells s = Lib.byteCells s.data.toList := by simp [Lib.strCells, Lib.byteCells]
theorem app_str {v v' : Value} {o : List UInt8} {s : ByteArray} {w1 : World} (h : Wr B w w1) (hB : B ≤ w1.heap.size) (hr : Row B w1 v o) (y1 : w'.ownsRow B 5 1 v' (o.length + s.size) (Lib.byteCells o ++ Lib.strCells s)) (y2 : w1.grownBy w' v.ownBlock) :
  Row B w' v' (o ++ s.data.toList) ∧ Wr B w w' := by
 refine ⟨?_, h.grown hr y2 hB⟩
 unfold Row
 rw [byteCells_app, List.length_append, ← strCells_eq]
 have : s.data.toList.length = s.size := by rw [Array.length_toList]; rfl
 rw [this]
 exact y1
theorem app_bytes {v v' : Value} {o l : List UInt8} {w1 : World} {ob : Obj} (h : Wr B w w1) (hB : B ≤ w1.heap.size) (hr : Row B w1 v o) (y1 : w'.ownsRow B 5 1 v' (o.length + l.length) (Lib.byteCells o ++ Lib.byteCells l)) (y2 : (w1.alloc ob).grownBy w' v.ownBlock) :
  Row B w' v' (o ++ l) ∧ Wr B w w' := by
 refine ⟨?_, (h.alloc hB ob).grown (World.ownsRow.alloc hr ob) y2 (by simp; omega)⟩
 unfold Row
 rw [byteCells_app, List.length_append]
 exact y1
theorem appendBool_c (B : Nat) (w : World) (v : Value) (o : List UInt8) (b : Bool) (hr : Row B w v o) (hB : B ≤ w.heap.size) (ho : o.length ≤ 140000000000000) :
  Calls Tryz.prog 118 #[v, .bool b] w fun e w' => WrR B w (o ++ cJ (.bool b)) e w' := by
 obtain ⟨i0, hi, hz0, hz1, hz2⟩ := info_parts info8
 cases b
 ·go_enter Tryz.func118, Tryz.ntmps118
  go_wp2_with (first | (at_builtin; refine Lib.wpList_append_own_string _ rfl _ _ 124 9 rfl B 5 i0 Tryz.underlying124 Tryz.underlying9 hi hz0 hz1 hz2 _ _ _ rfl hr ⟨#[102, 97, 108, 115, 101]⟩ rfl (by unfold maxLen; show o.length + 5 ≤ _; omega) (by show o.length + 5 ≤ _; omega) hB ?_; intro v' w1 y1 y2 _) | go_in)
  go_ret
  obtain ⟨z1, z2⟩ := app_str (Wr.refl B w) hB hr y1 y2
  exact ⟨_, rfl, z1, z2⟩
 ·go_enter Tryz.func118, Tryz.ntmps118
  go_wp2_with (first | (at_builtin; refine Lib.wpList_append_own_string _ rfl _ _ 124 9 rfl B 5 i0 Tryz.underlying124 Tryz.underlying9 hi hz0 hz1 hz2 _ _ _ rfl hr ⟨#[116, 114, 117, 101]⟩ rfl (by unfold maxLen; show o.length + 4 ≤ _; omega) (by show o.length + 4 ≤ _; omega) hB ?_; intro v' w1 y1 y2 _) | go_in)
  go_ret
  obtain ⟨z1, z2⟩ := app_str (Wr.refl B w) hB hr y1 y2
  exact ⟨_, rfl, z1, z2⟩
theorem cB_ctl {c : UInt8} (h : c.toNat < 32) (h8 : c ≠ 8) (h12 : c ≠ 12) (h10 : c ≠ 10) (h13 : c ≠ 13) (h9 : c ≠ 9) : cB c = [92, 117, 48, 48, hexD (c.toNat / 16), hexD (c.toNat % 16)] := by
 unfold cB
 have h34 : ¬ (c = 34 ∨ c = 92) := by rintro (rfl | rfl) <;> simp at h
 have h32 : c < 32 := by rw [UInt8.lt_iff_toNat_lt]; exact h
 rw [if_neg h34, if_neg h8, if_neg h12, if_neg h10, if_neg h13, if_neg h9, if_pos h32]
set_option maxRecDepth 100000 in
theorem idx_hex (k : Nat) (hk : k < 16) (w : World) : (Instr.index 9 (.string ⟨#[48, 49, 50, 51, 52, 53, 54, 55, 56, 57, 97, 98, 99, 100, 101, 102]⟩) (.int .u8 (k : Int))).run Tryz.prog w = .ok (.int .u8 (hexD k).toNat) w := by
 have : k = 0 ∨ k = 1 ∨ k = 2 ∨ k = 3 ∨ k = 4 ∨ k = 5 ∨ k = 6 ∨ k = 7 ∨ k = 8 ∨ k = 9 ∨ k = 10 ∨ k = 11 ∨ k = 12 ∨ k = 13 ∨ k = 14 ∨ k = 15 := by omega
 rcases this with rfl | rfl | rfl | rfl | rfl | rfl | rfl | rfl | rfl | rfl | rfl | rfl | rfl | rfl | rfl | rfl <;> rfl
theorem cells_new (w : World) (l : List Value) (t : TypeId) : ∀ (j : Nat) (u : Value), l[j]? = some u → (w.alloc (.cells l.toArray t)).cell? ((⟨w.heap.size, 0, none⟩ : Addr).add j) = some u := by
 intro j u h
 have ea : (⟨w.heap.size, 0, none⟩ : Addr).add j = ⟨w.heap.size, j, none⟩ := by
  unfold Addr.add
  by_cases h0 : j = 0 <;> simp [h0]
 rw [ea]
 have := heap_alloc_new w (.cells l.toArray t)
 simp only [World.cell?, this]
 simpa using h
theorem bytes_one (l : List UInt8) : ∀ u ∈ Lib.byteCells l, u.oneCell' = true := by
 intro u hu
 obtain ⟨x, _, rfl⟩ := List.mem_map.1 hu
 rfl
theorem and15 : ∀ k : Nat, k < 32 → bits BinOp.and IntKind.u8 (k : Int) 15 = ((k % 16 : Nat) : Int) := by decide
set_option maxRecDepth 20000 in
theorem appendControl_c (B : Nat) (w : World) (v : Value) (o : List UInt8) (c : UInt8) (hc : c.toNat < 32) (hr : Row B w v o) (hB : B ≤ w.heap.size) (ho : o.length ≤ 140000000000000) :
  Calls Tryz.prog 169 #[v, .int .u8 c.toNat] w fun e w' => WrR B w (o ++ cB c) e w' ∧ Kp (fun k => v.ownBlock = some k) w w' := by
 obtain ⟨i0, hi, hz0, hz1, hz2⟩ := info_parts info8
 by_cases h8 : c = 8
 ·subst h8
  go_enter Tryz.func169, Tryz.ntmps169
  go_wp2_with (at_builtin; refine Lib.wpList_append_own_string _ rfl _ _ 124 9 rfl B 5 i0 Tryz.underlying124 Tryz.underlying9 hi hz0 hz1 hz2 _ _ _ rfl hr ⟨#[92, 98]⟩ rfl (by unfold maxLen; show o.length + 2 ≤ _; omega) (by show o.length + 2 ≤ _; omega) hB ?_; intro v' w1 y1 y2 _)
  go_ret
  obtain ⟨z1, z2⟩ := app_str (Wr.refl B w) hB hr y1 y2
  exact ⟨⟨_, rfl, z1, z2⟩, (Kp.refl _ _).grown y2 (fun k hk _ => hk)⟩
 by_cases h12 : c = 12
 ·subst h12
  go_enter Tryz.func169, Tryz.ntmps169
  go_wp2_with (at_builtin; refine Lib.wpList_append_own_string _ rfl _ _ 124 9 rfl B 5 i0 Tryz.underlying124 Tryz.underlying9 hi hz0 hz1 hz2 _ _ _ rfl hr ⟨#[92, 102]⟩ rfl (by unfold maxLen; show o.length + 2 ≤ _; omega) (by show o.length + 2 ≤ _; omega) hB ?_; intro v' w1 y1 y2 _)
  go_ret
  obtain ⟨z1, z2⟩ := app_str (Wr.refl B w) hB hr y1 y2
  exact ⟨⟨_, rfl, z1, z2⟩, (Kp.refl _ _).grown y2 (fun k hk _ => hk)⟩
 by_cases h10 : c = 10
 ·subst h10
  go_enter Tryz.func169, Tryz.ntmps169
  go_wp2_with (at_builtin; refine Lib.wpList_append_own_string _ rfl _ _ 124 9 rfl B 5 i0 Tryz.underlying124 Tryz.underlying9 hi hz0 hz1 hz2 _ _ _ rfl hr ⟨#[92, 110]⟩ rfl (by unfold maxLen; show o.length + 2 ≤ _; omega) (by show o.length + 2 ≤ _; omega) hB ?_; intro v' w1 y1 y2 _)
  go_ret
  obtain ⟨z1, z2⟩ := app_str (Wr.refl B w) hB hr y1 y2
  exact ⟨⟨_, rfl, z1, z2⟩, (Kp.refl _ _).grown y2 (fun k hk _ => hk)⟩
 by_cases h13 : c = 13
 ·subst h13
  go_enter Tryz.func169, Tryz.ntmps169
  go_wp2_with (at_builtin; refine Lib.wpList_append_own_string _ rfl _ _ 124 9 rfl B 5 i0 Tryz.underlying124 Tryz.underlying9 hi hz0 hz1 hz2 _ _ _ rfl hr ⟨#[92, 114]⟩ rfl (by unfold maxLen; show o.length + 2 ≤ _; omega) (by show o.length + 2 ≤ _; omega) hB ?_; intro v' w1 y1 y2 _)
  go_ret
  obtain ⟨z1, z2⟩ := app_str (Wr.refl B w) hB hr y1 y2
  exact ⟨⟨_, rfl, z1, z2⟩, (Kp.refl _ _).grown y2 (fun k hk _ => hk)⟩
 by_cases h9 : c = 9
 ·subst h9
  go_enter Tryz.func169, Tryz.ntmps169
  go_wp2_with (at_builtin; refine Lib.wpList_append_own_string _ rfl _ _ 124 9 rfl B 5 i0 Tryz.underlying124 Tryz.underlying9 hi hz0 hz1 hz2 _ _ _ rfl hr ⟨#[92, 116]⟩ rfl (by unfold maxLen; show o.length + 2 ≤ _; omega) (by show o.length + 2 ≤ _; omega) hB ?_; intro v' w1 y1 y2 _)
  go_ret
  obtain ⟨z1, z2⟩ := app_str (Wr.refl B w) hB hr y1 y2
  exact ⟨⟨_, rfl, z1, z2⟩, (Kp.refl _ _).grown y2 (fun k hk _ => hk)⟩
 have n8 : ((c.toNat : Int) == 8) = false := u8n h8
 have n12 : ((c.toNat : Int) == 12) = false := u8n h12
 have n10 : ((c.toNat : Int) == 10) = false := u8n h10
 have n13 : ((c.toNat : Int) == 13) = false := u8n h13
 have n9 : ((c.toNat : Int) == 9) = false := u8n h9
 have hcb := hide (cB_ctl hc h8 h12 h10 h13 h9)
 clear h8 h12 h10 h13 h9
 have hx1 : ∀ w, (Instr.index 9 (.string ⟨#[48, 49, 50, 51, 52, 53, 54, 55, 56, 57, 97, 98, 99, 100, 101, 102]⟩) (.int .u8 ((c.toNat : Int) / 16))).run Tryz.prog w = .ok (.int .u8 (hexD (c.toNat / 16)).toNat) w := fun w => idx_hex (c.toNat / 16) (by omega) w
 have hx2 : ∀ w, (Instr.index 9 (.string ⟨#[48, 49, 50, 51, 52, 53, 54, 55, 56, 57, 97, 98, 99, 100, 101, 102]⟩) (.int .u8 (bits BinOp.and IntKind.u8 (c.toNat : Int) 15))).run Tryz.prog w = .ok (.int .u8 (hexD (c.toNat % 16)).toNat) w := fun w => by
  rw [and15 c.toNat hc]; exact idx_hex (c.toNat % 16) (by omega) w
 have hrd : Row B w.drew v o := hr
 generalize hd1 : hexD (c.toNat / 16) = d1 at *
 generalize hd2 : hexD (c.toNat % 16) = d2 at *
 have HD := hide (And.intro hd1 hd2)
 clear hd1 hd2
 go_enter Tryz.func169, Tryz.ntmps169
 go_wp2_with fail
 go_region_law (refine step_append_own rfl (.tmp 26) (.tmp 33) 124 rfl B 5 i0 (.int .u8 0) 1 1 Tryz.underlying124 hi hz0 hz1 hz2 rfl (by decide) v o.length (Lib.byteCells o) (by simp [Act.eval]) (World.ownsRow.alloc hrd _) ⟨w.heap.size, 0, none⟩ 6 6 (Lib.byteCells [92, 117, 48, 48, d1, d2]) (by simp [Act.eval]) rfl (by exact cells_new w.drew _ _) (bytes_one _) (by unfold maxLen; omega) (by omega) (by simp; omega) ?_; intro v' w3 y1 y2 _)
 all_goals
  obtain ⟨z1, z2⟩ := app_bytes (l := [92, 117, 48, 48, d1, d2]) (w1 := w.drew) (w := w) ⟨(Below.refl _ _).drew, Lib.OthersKept.refl _ _ _⟩ hB hrd y1 y2
  have K9 : Kp (fun k => v.ownBlock = some k) w w3 := (((Kp.refl _ w).drew).alloc _).grown y2 (fun k hk _ => hk)
  have Z := hide (And.intro z1 z2)
  clear z1 z2 y1 y2
  go_wp2
  go_ret
  refine ⟨⟨_, rfl, ?_, Z.out.2⟩, K9⟩
  rw [hcb.out]
  exact Z.out.1
end Go.Proofs.YtocligpfmfmihaaGreatDoor
namespace Go.Proofs.YtocligpfmfmihaaGreatDoor
open Go Go.RowKit Go.Maps Go.WideMaps
theorem cStr_step (l : List UInt8) (c : UInt8) : (l ++ [c]).flatMap cB = l.flatMap cB ++ cB c := by simp
theorem take_snoc' (s : ByteArray) (k : Nat) (h : k < s.size) : s.data.toList.take (k + 1) = s.data.toList.take k ++ [s[k]] := by
 rw [List.take_succ_eq_append_getElem (by simpa using h)]; rfl
theorem flat_ge (l : List UInt8) : l.length ≤ (l.flatMap cB).length := by
 induction l with
 | nil => simp
 | cons c l ih =>
  have : 1 ≤ (cB c).length := by
   unfold cB
   repeat' split
   all_goals simp
  rw [List.flatMap_cons, List.length_append, List.length_cons]
  omega
theorem flat_take (l : List UInt8) (k : Nat) : ((l.take k).flatMap cB).length ≤ (l.flatMap cB).length := by
 conv => rhs; rw [← List.take_append_drop k l, List.flatMap_append, List.length_append]
 omega
theorem bytesW_wr {B : Nat} {a w : World} {s : ByteArray} (h : Wr B a w) (hB : B ≤ w.heap.size) : Wr B a (Lib.bytesWorld w 5 s) := by
 refine h.trans ⟨⟨?_, ?_, ?_, ?_, fun k hk => Lib.bytesWorld_at_old w _ s k (by omega)⟩, fun i o h1 _ _ => by rw [Lib.bytesWorld_at_old w _ s i (lt_heap h1)]; exact h1⟩
 ·unfold Lib.bytesWorld World.freeze; rw [if_neg (by decide)]; rfl
 ·unfold Lib.bytesWorld World.freeze; rw [if_neg (by decide)]; rfl
 ·unfold Lib.bytesWorld World.freeze; rw [if_neg (by decide)]; rfl
 ·rw [Lib.bytesWorld_size]; omega
theorem row_ne {B bb : Nat} {w w1 : World} {v : Value} {o : List UInt8} {s : ByteArray} (hr : Row B w v o) (h : w.heap[bb]? = (Lib.bytesWorld w1 5 s).heap[w1.heap.size]?) : v.ownBlock ≠ some bb := by
 intro e
 obtain ⟨_, ⟨rfl, _⟩ | ⟨g, cap, cur, rfl, _, hh, _⟩⟩ := hr
 ·cases e
 ·injection e with e
  subst e
  rw [h, Lib.bytesWorld_at_new] at hh
  injection hh with hh
  injection hh with _ _ hh
  injection hh with h1 h2
  omega
set_option maxRecDepth 20000 in
set_option maxHeartbeats 1000000 in
theorem appendString_c (B : Nat) (w : World) (v : Value) (o : List UInt8) (s : ByteArray) (hr : Row B w v o) (hB : B ≤ w.heap.size) (ho : o.length + (cStr s.data.toList).length ≤ 139000000000000) :
  Calls Tryz.prog 120 #[v, .string s] w fun e w' => WrR B w (o ++ cStr s.data.toList) e w' := by
 obtain ⟨i0, hi, hz0, hz1, hz2⟩ := info_parts info8
 have hss : s.size ≤ 139000000000000 := by
  have h1 := flat_ge s.data.toList
  have h2 : s.data.toList.length = s.size := by rw [Array.length_toList]; rfl
  rw [cStr, List.length_cons, List.length_append] at ho
  omega
 have hcv := fun w1 : World => Lib.run_convert_string_bytes (P := Tryz.prog) w1 9 124 5 s Tryz.underlying9 Tryz.underlying124 Tryz.underlying5
 go_enter Tryz.func120, Tryz.ntmps120
 go_wp2_with (at_builtin; refine wpList_append_own _ rfl (.tmp 7) (.tmp 8) 124 rfl B 5 i0 (.int .u8 0) 1 1 Tryz.underlying124 hi hz0 hz1 hz2 rfl (by decide) _ _ _ rfl (World.ownsRow.alloc hr _) ⟨w.heap.size, 0, none⟩ 1 1 (Lib.byteCells [34]) rfl rfl (by exact cells_new w _ _) (bytes_one _) (by unfold maxLen; omega) (by omega) (by simp; omega) ?_; intro v1 w1 y1 y2 _)
 obtain ⟨z1, z2⟩ := app_bytes (l := [34]) (Wr.refl B w) hB hr y1 y2
 have hB1 : B ≤ w1.heap.size := Nat.le_trans hB z2.below.size
 clear y1 y2
 go_wp2_with fail
 go_loopg [0, 13] s.size (fun g a i wr => ∃ k : Nat, g = s.size - k ∧ k ≤ s.size ∧ i = .int .i64 (k : Int) ∧ Row B wr a (o ++ 34 :: (s.data.toList.take k).flatMap cB) ∧ Wr B w wr ∧ wr.heap[w1.heap.size]? = (Lib.bytesWorld w1 5 s).heap[w1.heap.size]?)
 case atStart =>
  refine ⟨0, rfl, by omega, rfl, ?_, bytesW_wr z2 hB1, rfl⟩
  simp only [List.take_zero, List.flatMap_nil]
  exact z1.old (fun k hk => Lib.bytesWorld_at_old w1 _ s k (z1.lt k hk).2)
 case round =>
  obtain ⟨k, hg, hk, rfl, hrow, hwr, hbb⟩ := hrel
  have hlen : (o ++ 34 :: (s.data.toList.take k).flatMap cB).length + 1 ≤ o.length + (cStr s.data.toList).length := by
   have h1 := flat_take s.data.toList k
   rw [List.length_append, List.length_cons, cStr, List.length_cons, List.length_append, List.length_singleton]
   omega
  generalize ho1 : o ++ 34 :: (s.data.toList.take k).flatMap cB = o1 at *
  have A := hide (And.intro hg (And.intro ho1 hbb))
  have hBr : B ≤ wr.heap.size := Nat.le_trans hB hwr.below.size
  have hlt1 : w1.heap.size < wr.heap.size := by
   have := hbb
   rw [Lib.bytesWorld_at_new] at this
   exact lt_heap this
  clear hg ho1 z1 z2
  by_cases hlt : k < s.size
  ·have hcell : wr.cell? ⟨w1.heap.size, k, none⟩ = some (.int .u8 (s[k].toNat : Int)) := by
    have h1 : wr.cell? ⟨w1.heap.size, k, none⟩ = (Lib.bytesWorld w1 5 s).cell? ⟨w1.heap.size, k, none⟩ := World.cell?_of_block (a := ⟨w1.heap.size, k, none⟩) hbb
    rw [h1, Lib.bytesWorld_cell w1 _ s k hlt]
    simp [List.getD, hlt]
    rfl
   clear hbb
   have hstep : o1 ++ cB s[k] = o ++ 34 :: (s.data.toList.take (k + 1)).flatMap cB := by
    rw [take_snoc' s k hlt, cStr_step, ← A.out.2.1]; simp
   generalize s[k] = c at *
   have ST := hide hstep
   have hc256 : c.toNat < 256 := c.toNat_lt
   have hlt' : decide ((k : Int) < (s.size : Int)) = true := by simp; omega
   have own' : ∀ w2, Kp (fun k => u0.ownBlock = some k) wr w2 → w2.heap[w1.heap.size]? = (Lib.bytesWorld w1 5 s).heap[w1.heap.size]? := fun w2 hk2 =>
    (hk2.block _ hlt1 (row_ne hrow A.out.2.2)).trans A.out.2.2
   have OW := hide own'
   clear hstep own'
   by_cases hq : c = 34 ∨ c = 92
   ·have hcb : cB c = [92, c] := by unfold cB; rw [if_pos hq]
    have CB := hide hcb
    clear hcb
    have finQ : ∀ v2 w2, w2.ownsRow B 5 1 v2 (o1.length + 2) (Lib.byteCells o1 ++ Lib.byteCells [92, c]) → (wr.alloc (.cells #[.int .u8 92, .int .u8 c.toNat] 5)).grownBy w2 u0.ownBlock → Row B w2 v2 (o ++ 34 :: (s.data.toList.take (k + 1)).flatMap cB) ∧ Wr B w w2 ∧ w2.heap[w1.heap.size]? = (Lib.bytesWorld w1 5 s).heap[w1.heap.size]? := by
     intro v2 w2 y1 y2
     obtain ⟨z1, z2⟩ := app_bytes (l := [92, c]) hwr hBr hrow y1 y2
     refine ⟨?_, z2, OW.out w2 (((Kp.refl _ _).alloc _).grown y2 (fun k hk _ => hk))⟩
     rw [← ST.out, CB.out]; exact z1
    have FQ := hide finQ
    clear finQ
    by_cases h34 : c = 34
    ·have t34 : ((c.toNat : Int) == 34) = true := by subst h34; rfl
     clear h34 hq
     go_wp2_with (at_builtin; refine wpList_append_own _ rfl (.tmp 28) (.tmp 30) 124 rfl B 5 i0 (.int .u8 0) 1 1 Tryz.underlying124 hi hz0 hz1 hz2 rfl (by decide) _ _ _ rfl (World.ownsRow.alloc hrow _) ⟨wr.heap.size, 0, none⟩ 2 2 (Lib.byteCells [92, c]) rfl rfl (by exact cells_new wr _ _) (bytes_one _) (by unfold maxLen; omega) (by omega) (by simp; omega) ?_; intro v2 w2 y1 y2 _)
     have FF := hide (FQ.out v2 w2 y1 y2)
     clear y1 y2
     go_wp2
     go_roundg (s.size - (k + 1))
     case measure => rw [A.out.1]; omega
     case rel => exact ⟨k + 1, rfl, by omega, int_i64 (by omega), FF.out.1, FF.out.2.1, FF.out.2.2⟩
    ·have n34 : ((c.toNat : Int) == 34) = false := u8n h34
     have t92 : ((c.toNat : Int) == 92) = true := by rcases hq with h | h; exact absurd h h34; subst h; rfl
     clear h34 hq
     go_wp2_with (at_builtin; refine wpList_append_own _ rfl (.tmp 28) (.tmp 30) 124 rfl B 5 i0 (.int .u8 0) 1 1 Tryz.underlying124 hi hz0 hz1 hz2 rfl (by decide) _ _ _ rfl (World.ownsRow.alloc hrow _) ⟨wr.heap.size, 0, none⟩ 2 2 (Lib.byteCells [92, c]) rfl rfl (by exact cells_new wr _ _) (bytes_one _) (by unfold maxLen; omega) (by omega) (by simp; omega) ?_; intro v2 w2 y1 y2 _)
     have FF := hide (FQ.out v2 w2 y1 y2)
     clear y1 y2
     go_wp2
     go_roundg (s.size - (k + 1))
     case measure => rw [A.out.1]; omega
     case rel => exact ⟨k + 1, rfl, by omega, int_i64 (by omega), FF.out.1, FF.out.2.1, FF.out.2.2⟩
   ·have n34 : ((c.toNat : Int) == 34) = false := u8n (fun h => hq (Or.inl h))
    have n92 : ((c.toNat : Int) == 92) = false := u8n (fun h => hq (Or.inr h))
    have NQ := hide hq
    clear hq
    by_cases h32 : (c.toNat : Int) < 32
    ·go_wp2_with fail
     refine (appendControl_c B wr u0 o1 c (by omega) hrow hBr (by omega)).mono ?_
     rintro e w2 ⟨⟨v2, rfl, y1, y2⟩, y3⟩
     have FF := hide (And.intro (show Row B w2 v2 (o ++ 34 :: (s.data.toList.take (k + 1)).flatMap cB) by rw [← ST.out]; exact y1) (And.intro (hwr.trans y2) (OW.out w2 y3)))
     clear y1 y2 y3
     go_wp2
     go_roundg (s.size - (k + 1))
     case measure => rw [A.out.1]; omega
     case rel => exact ⟨k + 1, rfl, by omega, int_i64 (by omega), FF.out.1, FF.out.2.1, FF.out.2.2⟩
    ·have h32' : 32 ≤ (c.toNat : Int) := by omega
     have hcb : cB c = [c] := by
      have hn : ∀ d : UInt8, d.toNat < 32 → c ≠ d := by rintro d hd rfl; omega
      unfold cB
      rw [if_neg NQ.out, if_neg (hn 8 (by decide)), if_neg (hn 12 (by decide)), if_neg (hn 10 (by decide)), if_neg (hn 13 (by decide)), if_neg (hn 9 (by decide)), if_neg (by rw [UInt8.lt_iff_toNat_lt]; show ¬ c.toNat < 32; omega)]
     have CB := hide hcb
     clear hcb h32
     go_wp2_with (at_builtin; refine wpList_append_own _ rfl (.tmp 17) (.tmp 19) 124 rfl B 5 i0 (.int .u8 0) 1 1 Tryz.underlying124 hi hz0 hz1 hz2 rfl (by decide) _ _ _ rfl (World.ownsRow.alloc hrow _) ⟨wr.heap.size, 0, none⟩ 1 1 (Lib.byteCells [c]) rfl rfl (by exact cells_new wr _ _) (bytes_one _) (by unfold maxLen; omega) (by omega) (by simp; omega) ?_; intro v2 w2 y1 y2 _)
     have FF := hide (And.intro (show Row B w2 v2 (o ++ 34 :: (s.data.toList.take (k + 1)).flatMap cB) by rw [← ST.out, CB.out]; exact (app_bytes (l := [c]) hwr hBr hrow y1 y2).1) (And.intro (app_bytes (l := [c]) hwr hBr hrow y1 y2).2 (OW.out w2 (((Kp.refl _ _).alloc _).grown y2 (fun k hk _ => hk)))))
     clear y1 y2
     go_wp2
     go_roundg (s.size - (k + 1))
     case measure => rw [A.out.1]; omega
     case rel => exact ⟨k + 1, rfl, by omega, int_i64 (by omega), FF.out.1, FF.out.2.1, FF.out.2.2⟩
  ·have hlt' : decide ((k : Int) < (s.size : Int)) = false := by simp; omega
   clear hbb
   go_wp2_with (at_builtin; refine wpList_append_own _ rfl (.tmp 39) (.tmp 40) 124 rfl B 5 i0 (.int .u8 0) 1 1 Tryz.underlying124 hi hz0 hz1 hz2 rfl (by decide) _ _ _ rfl (World.ownsRow.alloc hrow _) ⟨wr.heap.size, 0, none⟩ 1 1 (Lib.byteCells [34]) rfl rfl (by exact cells_new wr _ _) (bytes_one _) (by unfold maxLen; omega) (by omega) (by simp; omega) ?_; intro v2 w2 y1 y2 _)
   have FF := hide (app_bytes (l := [34]) hwr hBr hrow y1 y2)
   clear y1 y2
   go_wp2
   go_ret
   refine ⟨_, rfl, ?_, FF.out.2⟩
   have e1 : s.data.toList.take k = s.data.toList := List.take_of_length_le (by simp; omega)
   have e2 := A.out.2.1
   rw [e1] at e2
   have e3 : o ++ cStr s.data.toList = o1 ++ [34] := by rw [← e2]; simp [cStr]
   rw [e3]
   exact FF.out.1
end Go.Proofs.YtocligpfmfmihaaGreatDoor
namespace Go.Proofs.YtocligpfmfmihaaGreatDoor
open Go Go.RowKit Go.Maps
theorem mk_size2 (o : Bs) : (⟨o.toArray⟩ : ByteArray).size = o.length := by
 show o.toArray.size = o.length
 simp
theorem ext_one {s : ByteArray} {k : Nat} (h : k < s.size) : s.extract k (k + 1) = ⟨#[s[k]]⟩ := by
 apply ByteArray.ext
 apply Array.toList_inj.1
 rw [ext_rest, rest_cons h]
 rfl
end Go.Proofs.YtocligpfmfmihaaGreatDoor
namespace Go.Proofs.YtocligpfmfmihaaGreatDoor
open Go Go.RowKit Go.Maps
theorem one_str (c : UInt8) (o : Bs) : (⟨#[c]⟩ : ByteArray) ++ ⟨o.toArray⟩ = ⟨(c :: o).toArray⟩ := by
 apply ByteArray.ext
 simp
theorem conv_one (w : World) (y : Int) (c : UInt8) (h : y = (c.toNat : Int)) : (convert 124 9 (.slice (some ⟨w.heap.size, 0, none⟩) 1 1)).run Tryz.prog (w.alloc (.cells #[.int .u8 y] 5)) = .ok (.string ⟨#[c]⟩) (w.alloc (.cells #[.int .u8 y] 5)) := by
 subst h
 have hr : (w.alloc (.cells #[.int .u8 (c.toNat : Int)] 5)).ownsRow 0 5 1 (.slice (some ⟨w.heap.size, 0, none⟩) 1 1) 1 (Lib.byteCells [c]) :=
  ⟨rfl, .inr ⟨w.heap.size, 1, _, rfl, Nat.zero_le _, heap_alloc_new w _, Nat.le_refl _, by decide, rfl, rfl⟩⟩
 exact own_string hr
end Go.Proofs.YtocligpfmfmihaaGreatDoor
namespace Go.Proofs.YtocligpfmfmihaaGreatDoor
open Go Go.RowKit Go.Maps
def insIx (ks : List Bs) (i : Nat) (l : List Nat) : List Nat := l.takeWhile (fun j => decide (ks.getD j [] < ks.getD i [])) ++ i :: l.dropWhile (fun j => decide (ks.getD j [] < ks.getD i []))
def ordIx (ks : List Bs) : Nat → List Nat
 | 0 => []
 | n + 1 => insIx ks n (ordIx ks n)
theorem insIx_len (ks : List Bs) (i : Nat) (l : List Nat) : (insIx ks i l).length = l.length + 1 := by
 have := congrArg List.length (List.takeWhile_append_dropWhile (p := fun j => decide (ks.getD j [] < ks.getD i [])) (l := l))
 rw [List.length_append] at this
 simp only [insIx, List.length_append, List.length_cons]
 omega
theorem ordIx_len (ks : List Bs) (n : Nat) : (ordIx ks n).length = n := by
 induction n with
 | zero => rfl
 | succ n ih => rw [ordIx, insIx_len, ih]
theorem insK_split {α : Type} (k : Bs) (v : α) : ∀ (l : List (Bs × α)), Srt l → lookK k l = none → insK k v l = l.takeWhile (fun p => decide (p.1 < k)) ++ (k, v) :: l.dropWhile (fun p => decide (p.1 < k))
 | [], _, _ => rfl
 | (a, x) :: l, hs, hn => by
  obtain ⟨h1, h2⟩ := List.pairwise_cons.1 hs
  have hne : a ≠ k := by
   intro e
   simp [lookK, e] at hn
  have hn' : lookK k l = none := by simpa [lookK, hne] using hn
  unfold insK
  by_cases hlt : k < a
  ·rw [if_pos hlt]
   have : ¬ a < k := fun h => lt_irr _ (lt_tr h hlt)
   simp [this]
  ·rw [if_neg hlt, if_neg hne]
   have : a < k := by
    rcases lt_tot a k with h | h | h
    ·exact h
    ·exact absurd h hne
    ·exact absurd h hlt
   simp only [List.takeWhile_cons, List.dropWhile_cons, this, decide_true, if_true, List.cons_append]
   rw [insK_split k v l h2 hn']
theorem ordIx_ofL {α : Type} (x : List (Bs × α)) (hx : Nod x) : ∀ n, n ≤ x.length → (ordIx (x.map (·.1)) n).map (fun j => x[j]?) = (ofL (x.take n)).map some := by
 intro n
 induction n with
 | zero => intro _; rfl
 | succ n ih =>
  intro hn
  have ih := ih (by omega)
  have hlt : n < x.length := by omega
  have htk : x.take (n + 1) = x.take n ++ [x[n]] := by rw [List.take_succ_eq_append_getElem hlt]
  have hnod : Nod (x.take (n + 1)) := by
   unfold Nod at *
   rw [List.map_take]
   exact (List.take_sublist _ _).nodup hx
  rw [htk] at hnod ⊢
  obtain ⟨hn1, hn2⟩ := (nod_snoc (x.take n) x[n].1 x[n].2).1 hnod
  have hlk : lookK x[n].1 (ofL (x.take n)) = none := by rw [lookK_ofL _ _ hn1]; exact hn2
  rw [show x.take n ++ [x[n]] = x.take n ++ [(x[n].1, x[n].2)] from rfl, ofL_snoc, insK_split _ _ _ (srt_ofL _) hlk, ordIx, insIx]
  generalize hL : ofL (x.take n) = L at *
  generalize hI : ordIx (x.map (·.1)) n = I at *
  have hgn : (x.map (·.1)).getD n [] = x[n].1 := by
   rw [List.getD, List.getElem?_map, List.getElem?_eq_getElem hlt]; rfl
  rw [hgn]
  have key : ∀ (I : List Nat) (L : List (Bs × α)), I.map (fun j => x[j]?) = L.map some → (I.takeWhile (fun j => decide ((x.map (·.1)).getD j [] < x[n].1))).map (fun j => x[j]?) = (L.takeWhile (fun p => decide (p.1 < x[n].1))).map some ∧ (I.dropWhile (fun j => decide ((x.map (·.1)).getD j [] < x[n].1))).map (fun j => x[j]?) = (L.dropWhile (fun p => decide (p.1 < x[n].1))).map some := by
   intro I
   induction I with
   | nil =>
    intro L h
    cases L with
    | nil => exact ⟨rfl, rfl⟩
    | cons a L => simp at h
   | cons i I ihI =>
    intro L h
    cases L with
    | nil => simp at h
    | cons a L =>
     simp only [List.map_cons, List.cons.injEq] at h
     obtain ⟨h1, h2⟩ := h
     have hgi : (x.map (·.1)).getD i [] = a.1 := by
      rw [List.getD, List.getElem?_map, h1]; rfl
     obtain ⟨q1, q2⟩ := ihI L h2
     simp only [List.takeWhile_cons, List.dropWhile_cons, hgi]
     by_cases hp : a.1 < x[n].1
     ·simp only [hp, decide_true, if_true, List.map_cons, h1, q1, q2, and_self]
     ·simp only [hp, decide_false, Bool.false_eq_true, if_false, List.map_cons, List.map_nil, h1, h2, and_self]
  obtain ⟨q1, q2⟩ := key I L ih
  rw [List.map_append, List.map_cons, List.map_append, List.map_cons, q1, q2, List.getElem?_eq_getElem hlt]
end Go.Proofs.YtocligpfmfmihaaGreatDoor

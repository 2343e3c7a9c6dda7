import Derived.Test.YtocligpfmfmihabGreatDoorObj2
import Derived.Test.YtocligpfmfmihabGreatDoorCoreG
import Derived.Test.YtocligpfmfmihabGreatDoorErr3
import Derived.Test.YtocligpfmfmihabGreatDoorWrt2G
import Derived.Test.YtocligpfmfmihabGreatDoorRef10G
import Derived.Test.YtocligpfmfmihabGreatDoorRefG
import Derived.Laws.Cover4
import Derived.Test.YtocligpfmfmihabGreatDoorRd3G
import Derived.Deep.CutRange
namespace Go.Proofs.YtocligpfmfmihabGreatDoor
open Go Go.RowKit Go.Maps Go.WideMaps

mutual
theorem cnt_le : ∀ (j : J), cnt j ≤ (cJ j).length
  | .null => by simp [cnt]
  | .bool _ => by simp [cnt]
  | .num _ => by simp [cnt]
  | .str _ => by simp [cnt]
  | .arr l => by
    have h := cnts_le l
    rw [cnt, cJ, cJs_map]
    simp only [List.length_cons, List.length_append, List.length_nil]
    omega
  | .obj l => by
    have h := cntm_le l
    rw [cnt, cJ_obj]
    simp only [List.length_cons, List.length_append, List.length_nil]
    omega
theorem cnts_le : ∀ (l : List J), cnts l ≤ (joinC (l.map cJ)).length + 1
  | [] => by simp [cnts]
  | [x] => by
    have h := cnt_le x
    simp only [cnts, List.map_cons, List.map_nil, joinC]
    omega
  | x :: y :: l => by
    have h := cnt_le x
    have h2 := cnts_le (y :: l)
    rw [cnts]
    simp only [List.map_cons, joinC, List.length_append, List.length_cons] at h2 ⊢
    omega
theorem cntm_le : ∀ (l : List (Bs × J)), cntm l ≤ (joinC (l.map cMem)).length + 1
  | [] => by simp [cntm]
  | [(k, x)] => by
    have h := cnt_le x
    simp only [cntm, List.map_cons, List.map_nil, joinC, cMem, List.length_append, List.length_cons]
    omega
  | (k, x) :: y :: l => by
    have h := cnt_le x
    have h2 := cntm_le (y :: l)
    rw [cntm]
    simp only [List.map_cons, joinC, List.length_append, List.length_cons, cMem] at h2 ⊢
    omega
end

/-- appendValue, at every value of this kind. -/
theorem app_all (W : World) (hG : GL W) : ∀ (d : Nat) (j : J), WF d j → cnt j ≤ 1000000 → AppC W j
  | _, .null, _, _ => app_null W
  | _, .bool b, _, _ => app_bool W b
  | d, .num n, h, _ => app_num W hG n (by cases d <;> simpa [WF] using h)
  | _, .str s, _, _ => app_strv W s
  | d + 1, .arr l, h, hc => by
    rw [WF] at h
    rw [cnt] at hc
    exact app_arr W l (fun x hx => app_all W hG d x (WFs_mem d l x h hx) (by have := (cnts_ge l).2 x hx; omega))
  | d + 1, .obj l, h, hc => by
    rw [WF] at h
    rw [cnt] at hc
    refine app_obj W l (appendObject_c W l (fun p hp => app_all W hG d p.2 (WFm_mem' d l p h.2 hp) (by have := (cntm_ge l).2 p hp; omega)) h.1 ?_)
    have := (cntm_ge l).1
    omega
  | 0, .arr _, h, _ => by simp [WF] at h
  | 0, .obj _, h, _ => by simp [WF] at h

theorem nil_row (B : Nat) (w : World) : Row B w (.slice none 0 0) [] := ⟨rfl, Or.inl ⟨rfl, rfl⟩⟩
/-- value.Canon. -/
theorem vcanon_c (W : World) (hG : GL W) (d : Nat) (j : J) (hj : WF d j) (hc : cnt j ≤ 1000000) (hlen : (cnt j + 1) * ((cJ j).length + 2) ≤ 139000000000000) (F : Nat → Prop) (v : Value) (w : World) (hW : Below W.heap.size W w) (hr : Rep w F j v) :
    Calls Tryz.prog 32 #[v] w fun e w' => e = .returned (.string ⟨(cJ j).toArray⟩) ∧ Wr w.heap.size w w' := by
  obtain ⟨tt, u, rfl⟩ := Rep.iface hr
  go_enter Tryz.func32, Tryz.ntmps32
  go_wp2_with fail
  refine (app_all W hG d j hj hc w.heap.size w (.slice none 0 0) [] F (.iface tt u) (cJ j).length hW hW.size (nil_row _ _) (Nat.le_refl _) hr (Nat.le_refl _) (by simpa using hlen)).mono ?_
  rintro e w2 ⟨v', rfl, z1, z2⟩
  have hconv := own_string z1
  clear z1
  simp only [List.nil_append] at hconv
  have HZ := hide z2
  clear z2
  go_wp2
  go_ret
  exact ⟨rfl, HZ.out⟩
end Go.Proofs.YtocligpfmfmihabGreatDoor
namespace Go.Proofs.YtocligpfmfmihabGreatDoor
open Go Go.RowKit Go.Extern.Stop Go.Stop Go.Extern

/-- What the variables of the program hold. -/
structure NG (W : World) : Prop where
  gl : GL W
  ety : W.cell? ⟨6, 0, none⟩ = some (.iface 237 ((Value.agg #[Value.pointer (some (Addr.mk 31 58 none))])))
  lon : ∃ a c t, W.cell? ⟨3, 0, none⟩ = some (errV a) ∧ W.heap[a.block]? = some (.cells c t)
  obj : ∃ a c t, W.cell? ⟨4, 0, none⟩ = some (errV a) ∧ W.heap[a.block]? = some (.cells c t)
  ne : ∀ a, W.cell? ⟨3, 0, none⟩ = some (errV a) → W.cell? ⟨4, 0, none⟩ ≠ some (errV a)

/-- The error ev has the number n. -/
def EV (W w : World) (ev : Value) (n : Nat) : Prop :=
  (n = 1 ∧ W.cell? ⟨3, 0, none⟩ = some ev) ∨ (n = 2 ∧ ∃ fb, ev = .iface 130 (.pointer (some ⟨fb, 0, none⟩)) ∧ FaultAt W w fb) ∨ (n = 3 ∧ W.cell? ⟨4, 0, none⟩ = some ev)

/-- The three variables of errno. -/
def w3 (w : World) : World := ((w.alloc (.cells #[.pointer none] 130)).alloc (.cells #[.pointer none] 131)).alloc (.cells #[.pointer none] 111)
theorem w3_kp (w : World) : Kp (fun _ => False) w (w3 w) := (((Kp.refl _ w).alloc _).alloc _).alloc _
theorem w3_tb (w : World) : (w3 w).heap[w.heap.size]? = some (.cells #[.pointer none] 130) := by
  unfold w3
  rw [Below.heap_alloc _ _ _ (by simp; omega)]
  exact (two_new w _ _).1
theorem Kp.heap {w w' : World} {k : Nat} {o : Obj} (h : Kp (fun _ => False) w w') (hk : w.heap[k]? = some o) : w'.heap[k]? = some o := (h.block k (lt_heap hk) (by simp)).trans hk
theorem Kp.cel {w w' : World} {a : Addr} {o : Value} (h : Kp (fun _ => False) w w') (hk : w.cell? a = some o) : w'.cell? a = some o := (h.cell (lt_cell hk) (by simp)).trans hk
theorem Below.hp {W w : World} {k : Nat} {o : Obj} (h : Below W.heap.size W w) (hk : W.heap[k]? = some o) : w.heap[k]? = some o := (h.block k (lt_heap hk)).trans hk
theorem Below.cl {W w : World} {a : Addr} {o : Value} (h : Below W.heap.size W w) (hk : W.cell? a = some o) : w.cell? a = some o := (h.cell (lt_cell hk)).trans hk

set_option maxRecDepth 20000 in
theorem errno_long (W : World) (hN : NG W) (w : World) (hW : Below W.heap.size W w) (ev : Value) (he : W.cell? ⟨3, 0, none⟩ = some ev) :
    Calls Tryz.prog 30 #[ev] w fun e w' => e = .returned (.int .i64 1) ∧ Kp (fun _ => False) w w' := by
  obtain ⟨a, c, t, h1, h2⟩ := hN.lon
  rw [he] at h1
  injection h1 with h1
  subst h1
  have hc := (w3_kp w).cel (Below.cl hW he)
  have HK := hide (w3_kp w)
  clear he
  unfold w3 at hc HK
  unfold errV at hc ⊢
  go_enter Tryz.func30, Tryz.ntmps30
  go_wp2_with fail
  refine (is_same a _).mono ?_
  rintro e w' ⟨rfl, rfl⟩
  go_wp2
  go_ret
  exact ⟨rfl, HK.out⟩
set_option maxRecDepth 20000 in
theorem errno_fault (W : World) (hN : NG W) (w : World) (hW : Below W.heap.size W w) (fb : Nat) (hf : FaultAt W w fb) :
    Calls Tryz.prog 30 #[.iface 130 (.pointer (some ⟨fb, 0, none⟩))] w fun e w' => e = .returned (.int .i64 2) ∧ Kp (fun _ => False) w w' := by
  obtain ⟨a, c, t, h1, h2⟩ := hN.lon
  obtain ⟨k, g, cb, f1, f2, f3, f4⟩ := hf
  obtain ⟨f5, c', t', f6⟩ := f4 3 (by simp)
  have hne : cb ≠ a := by rintro rfl; exact f5 h1
  have hc := (w3_kp w).cel (Below.cl hW h1)
  have H := hide (And.intro (w3_kp w) (And.intro ((w3_kp w).heap f1) (And.intro ((w3_kp w).heap (Below.hp hW f6)) (And.intro ((w3_kp w).heap (Below.hp hW h2)) (And.intro ((w3_kp w).cel (Below.cl hW hN.ety)) (w3_tb w))))))
  clear f1 f2 f4 f5 f6 h1 h2
  unfold w3 at hc H
  unfold errV at hc
  go_enter Tryz.func30, Tryz.ntmps30
  go_wp2_with fail
  refine (is_fault fb cb a _ _ _ _ _ _ H.out.2.1 hne H.out.2.2.1 H.out.2.2.2.1).mono ?_
  rintro e w' ⟨rfl, rfl⟩
  go_wp2_with fail
  refine (as_hit fb w.heap.size _ _ H.out.2.2.2.2.1 H.out.2.2.2.2.2).mono ?_
  rintro e w' ⟨rfl, hk⟩
  have HK := hide (H.out.1.and (S := fun _ => False) hk (by intro i hi e; omega))
  clear hk
  go_wp2
  go_ret
  exact ⟨rfl, HK.out⟩
set_option maxRecDepth 20000 in
theorem errno_obj (W : World) (hN : NG W) (w : World) (hW : Below W.heap.size W w) (ev : Value) (he : W.cell? ⟨4, 0, none⟩ = some ev) :
    Calls Tryz.prog 30 #[ev] w fun e w' => e = .returned (.int .i64 3) ∧ Kp (fun _ => False) w w' := by
  obtain ⟨a, c, t, h1, h2⟩ := hN.lon
  obtain ⟨b, c', t', h3, h4⟩ := hN.obj
  rw [he] at h3
  injection h3 with h3
  subst h3
  have hne : b ≠ a := by rintro rfl; exact hN.ne _ h1 he
  have hc := (w3_kp w).cel (Below.cl hW h1)
  have H := hide (And.intro (w3_kp w) (And.intro ((w3_kp w).cel (Below.cl hW he)) (And.intro ((w3_kp w).heap (Below.hp hW h4)) (And.intro ((w3_kp w).heap (Below.hp hW h2)) (And.intro ((w3_kp w).cel (Below.cl hW hN.ety)) (w3_tb w))))))
  clear h1 h2 h4 he
  unfold w3 at hc H
  unfold errV at hc ⊢
  go_enter Tryz.func30, Tryz.ntmps30
  go_wp2_with fail
  refine (is_other b a _ _ _ _ _ hne H.out.2.2.1 H.out.2.2.2.1).mono ?_
  rintro e w' ⟨rfl, rfl⟩
  go_wp2_with fail
  refine (as_miss b w.heap.size _ _ H.out.2.2.2.2.1 H.out.2.2.2.2.2).mono ?_
  rintro e w' ⟨rfl, hk⟩
  have HK := hide (H.out.1.trans hk)
  have hc2 := hk.cel H.out.2.1
  unfold errV at hc2
  clear hk hc
  go_wp2_with fail
  refine (is_same b _).mono ?_
  rintro e w' ⟨rfl, rfl⟩
  go_wp2
  go_ret
  exact ⟨rfl, HK.out⟩
/-- notary.errno. -/
theorem errno_c (W : World) (hN : NG W) (w : World) (hW : Below W.heap.size W w) (ev : Value) (n : Nat) (he : EV W w ev n) :
    Calls Tryz.prog 30 #[ev] w fun e w' => e = .returned (.int .i64 n) ∧ Kp (fun _ => False) w w' := by
  rcases he with ⟨rfl, h⟩ | ⟨rfl, fb, rfl, h⟩ | ⟨rfl, h⟩
  · exact errno_long W hN w hW ev h
  · exact errno_fault W hN w hW fb h
  · exact errno_obj W hN w hW ev h
end Go.Proofs.YtocligpfmfmihabGreatDoor
namespace Go.Proofs.YtocligpfmfmihabGreatDoor
open Go Go.RowKit Go.Extern.Stop Go.Stop Go.Extern

/-- What readValue comes to. -/
def RvR (W w : World) (l : Bs) (e : Ending) (w' : World) : Prop := Kp (fun _ => False) w w' ∧ ((∃ j v, valueF l = .ok j ∧ e = .returned (.tuple #[v, .nilIface]) ∧ Rep w' (fun b => w.heap.size ≤ b ∧ b < w'.heap.size) j v) ∨
    (∃ n ev, valueF l = .error n ∧ e = .returned (.tuple #[.nilIface, ev]) ∧ EV W w' ev n ∧ ∃ t u, ev = .iface t u))

theorem dlen (s : ByteArray) : s.data.toList.length = s.size := by rw [Array.length_toList]; rfl
set_option maxRecDepth 20000 in
theorem readValue_c (W : World) (hN : NG W) (s : ByteArray) (w : World) (hW : Below W.heap.size W w) :
    Calls Tryz.prog 56 #[.string s] w fun e w' => RvR W w s.data.toList e w' := by
  obtain ⟨a, c, t, h1, h2⟩ := hN.lon
  have hc := Below.cl hW h1
  have hsl := dlen s
  by_cases hs : 600 < s.size
  · have hd : decide ((600 : Int) < (s.size : Int)) = true := by simp; omega
    have HE : Hid (EV W w (errV a) 1) := Or.inl ⟨rfl, h1⟩
    have HV := hide (show valueF s.data.toList = .error 1 by unfold valueF; rw [if_pos (by omega)])
    unfold errV at hc HE
    clear h1 h2
    go_enter Tryz.func56, Tryz.ntmps56
    go_wp2
    go_quiet (fail)
    go_wp2
    go_ret2
    exact ⟨(Kp.refl _ _).drewN _, Or.inr ⟨1, _, HV.out, rfl, HE.out, _, _, rfl⟩⟩
  · have hd : decide ((600 : Int) < (s.size : Int)) = false := by simp; omega
    have hs' : s.size ≤ 600 := by omega
    clear h1 h2
    go_enter Tryz.func56, Tryz.ntmps56
    go_wp2_with fail
    refine (parse_c W hN.gl s hs' w hW).mono ?_
    rintro e w' ⟨hk, h⟩
    have HV := hide (show valueF s.data.toList = match parse s.data.toList with | none => .error 2 | some j => .ok j by unfold valueF; rw [if_neg (by omega)]; cases parse s.data.toList <;> rfl)
    have HK := hide hk
    clear hk
    rcases h with ⟨j, v, hp, rfl, hr⟩ | ⟨hp, fb, rfl, h3, h4⟩
    · obtain ⟨tt, u, rfl⟩ := Rep.iface hr
      have HR : Hid (RvR W w s.data.toList (.returned (.tuple #[.iface tt u, .nilIface])) w') := ⟨HK.out, Or.inl ⟨j, _, by rw [HV.out, hp], rfl, hr⟩⟩
      clear hp hr
      go_wp2
      go_ret2
      exact HR.out
    · have HR : Hid (RvR W w s.data.toList (.returned (.tuple #[.nilIface, .iface 130 (.pointer (some ⟨fb, 0, none⟩))])) w') := ⟨HK.out, Or.inr ⟨2, _, by rw [HV.out, hp], rfl, Or.inr (Or.inl ⟨rfl, fb, rfl, h4⟩), _, _, rfl⟩⟩
      clear hp h3 h4
      go_wp2
      go_ret2
      exact HR.out
/-- What a call that hands back a text and a number comes to. -/
def AnsR (w : World) (r : Bs × Nat) (e : Ending) (w' : World) : Prop := e = .returned (.tuple #[.string ⟨r.1.toArray⟩, .int .i64 r.2]) ∧ Kp (fun _ => False) w w'
theorem kp_wr {w w2 : World} (h : Wr w.heap.size w w2) : Kp (fun _ => False) w w2 := ⟨h.below.os, h.below.tape, h.below.output, h.below.size, fun k hk _ => h.below.block k hk⟩
end Go.Proofs.YtocligpfmfmihabGreatDoor
namespace Go.Proofs.YtocligpfmfmihabGreatDoor
open Go Go.RowKit

theorem c12 : cJ (.num 1) = [49] ∧ cJ (.num 2) = [50] := by
  constructor <;> (rw [cJ, cNum, if_neg (by decide), decN, if_pos (by decide)]; rfl)
def bA (s : Bs) : ByteArray := ⟨s.toArray⟩
end Go.Proofs.YtocligpfmfmihabGreatDoor
namespace Go.Proofs.YtocligpfmfmihabGreatDoor
open Go Go.RowKit Go.Maps

/-- The sign of a tree's kind. -/
def rkind : J → Nat | .null => 110 | .bool true => 116 | .bool false => 102 | .num _ => 35 | .str _ => 34 | .arr _ => 91 | .obj _ => 123
theorem RR.kind {w : World} {F : Nat → Prop} {j : J} {b : Nat} (h : RR w F j b) : ∃ n t K L, w.heap[b]? = some (vCells (rkind j) n t K L) := by
  cases h with
  | null hF h => exact ⟨_, _, _, _, h⟩
  | tt hF h => exact ⟨_, _, _, _, h⟩
  | ff hF h => exact ⟨_, _, _, _, h⟩
  | num n hn hF h => exact ⟨_, _, _, _, h⟩
  | str t hF h => exact ⟨_, _, _, _, h⟩
  | arr x L hF h => exact ⟨_, _, _, _, h⟩
  | obj x K L hF h => exact ⟨_, _, _, _, h⟩
/-- An object under work, at block vb. -/
structure BaI (lo vb : Nat) (y : List (Bs × Nat)) (K L : Value) (w : World) : Prop where
  blk : w.heap[vb]? = some (vCells 123 0 [] K L)
  rowK : w.ownsRow lo 9 1 K y.length (y.map fun p => .string ⟨p.1.toArray⟩)
  rowL : w.ownsRow lo 0 1 L y.length (y.map fun p => ptr p.2)
  ownK : ∀ k, K.ownBlock = some k → k ≠ vb
  ownL : ∀ k, L.ownBlock = some k → k ≠ vb
  kl : ∀ k, K.ownBlock = some k → L.ownBlock ≠ some k
structure BaK (lo vb : Nat) (y : List (Bs × Nat)) (a : Bs) (K L : Value) (w : World) : Prop where
  blk : w.heap[vb]? = some (vCells 123 0 [] K L)
  rowK : w.ownsRow lo 9 1 K (y.length + 1) ((y.map fun p => .string ⟨p.1.toArray⟩) ++ [.string ⟨a.toArray⟩])
  rowL : w.ownsRow lo 0 1 L y.length (y.map fun p => ptr p.2)
  ownK : ∀ k, K.ownBlock = some k → k ≠ vb
  ownL : ∀ k, L.ownBlock = some k → k ≠ vb
  kl : ∀ k, K.ownBlock = some k → L.ownBlock ≠ some k
theorem BaI.key {lo vb : Nat} {y : List (Bs × Nat)} {a : Bs} {K L K' : Value} {w5 w6 : World} (h : BaI lo vb y K L w5) (B : Kp (fun k => K.ownBlock = some k) w5 w6)
    (y1 : w6.ownsRow lo 9 1 K' (y.length + 1) ((y.map fun p => .string ⟨p.1.toArray⟩) ++ [.string ⟨a.toArray⟩])) (y3 : K'.ownBlock = K.ownBlock ∨ ∃ q, w5.heap.size ≤ q ∧ K'.ownBlock = some q) :
    BaK lo vb y a K' L (w6.setCell ⟨vb, 3, none⟩ K') := by
  have hvb := lt_heap h.blk
  have own' : ∀ k, K'.ownBlock = some k → k ≠ vb ∧ L.ownBlock ≠ some k := by
    intro k hk
    rcases y3 with e | ⟨q, hq, e⟩
    · rw [e] at hk
      exact ⟨h.ownK k hk, h.kl k hk⟩
    · rw [e] at hk
      injection hk with hk
      exact ⟨by omega, fun hl => by have := (h.rowL.lt k hl).2; omega⟩
  have h6 : w6.heap[vb]? = some (vCells 123 0 [] K L) := (B.block vb hvb (fun e => h.ownK _ e rfl)).trans h.blk
  refine ⟨?_, ?_, ?_, fun k hk => (own' k hk).1, h.ownL, fun k hk => (own' k hk).2⟩
  · simp [World.setCell, Array.getElem?_modify, h6, vCells]
  · exact ownsRow_heap y1 fun k hk => heap_set_other (own' k hk).1
  · refine ownsRow_heap h.rowL fun k hk => ?_
    rw [heap_set_other (h.ownL k hk), B.block k (h.rowL.lt k hk).2 (fun e => h.kl k e hk)]
theorem BaK.more {lo vb b : Nat} {y : List (Bs × Nat)} {a : Bs} {K L L' : Value} {w7 w8 : World} (h : BaK lo vb y a K L w7) (B : Kp (fun k => L.ownBlock = some k) w7 w8)
    (y1 : w8.ownsRow lo 0 1 L' (y.length + 1) ((y.map fun p => ptr p.2) ++ [ptr b])) (y3 : L'.ownBlock = L.ownBlock ∨ ∃ q, w7.heap.size ≤ q ∧ L'.ownBlock = some q) :
    BaI lo vb (y ++ [(a, b)]) K L' (w8.setCell ⟨vb, 4, none⟩ L') := by
  have hvb := lt_heap h.blk
  have own' : ∀ k, L'.ownBlock = some k → k ≠ vb ∧ K.ownBlock ≠ some k := by
    intro k hk
    rcases y3 with e | ⟨q, hq, e⟩
    · rw [e] at hk
      exact ⟨h.ownL k hk, fun e => h.kl k e hk⟩
    · rw [e] at hk
      injection hk with hk
      exact ⟨by omega, fun e => by have := (h.rowK.lt k e).2; omega⟩
  have h8 : w8.heap[vb]? = some (vCells 123 0 [] K L) := (B.block vb hvb (fun e => h.ownL _ e rfl)).trans h.blk
  refine ⟨?_, ?_, ?_, h.ownK, fun k hk => (own' k hk).1, fun k hk e => (own' k e).2 hk⟩
  · simp [World.setCell, Array.getElem?_modify, h8, vCells]
  · rw [List.length_append, List.map_append]
    refine ownsRow_heap h.rowK fun k hk => ?_
    rw [heap_set_other (h.ownK k hk), B.block k (h.rowK.lt k hk).2 (fun e => h.kl k hk e)]
  · rw [List.length_append, List.map_append]
    exact ownsRow_heap y1 fun k hk => heap_set_other (own' k hk).1
end Go.Proofs.YtocligpfmfmihabGreatDoor
namespace Go.Proofs.YtocligpfmfmihabGreatDoor
open Go Go.RowKit Go.Maps

/-- What stands at a pointer, as an object's members: none where it is none. -/
def PoL (w : World) (po : Option Addr) (l : List (Bs × J)) : Prop :=
  (l = [] ∧ (po = none ∨ ∃ b kind n t K L, po = some ⟨b, 0, none⟩ ∧ w.heap[b]? = some (vCells kind n t K L) ∧ kind ≠ 123)) ∨
  ((cJ (.obj l)).length ≤ 600 ∧ ∃ b, po = some ⟨b, 0, none⟩ ∧ RR w (fun c => c < w.heap.size) (.obj l) b)
theorem PoL.kp {w w' : World} {po : Option Addr} {l : List (Bs × J)} (h : PoL w po l) (hk : Kp (fun _ => False) w w') : PoL w' po l := by
  rcases h with ⟨h1, h2⟩ | ⟨h0, b, h1, h2⟩
  · refine Or.inl ⟨h1, ?_⟩
    rcases h2 with h2 | ⟨b, kind, n, t, K, L, e, hb, hk'⟩
    · exact Or.inl h2
    · exact Or.inr ⟨b, kind, n, t, K, L, e, vkp hb hk, hk'⟩
  · exact Or.inr ⟨h0, b, h1, h2.frame (fun k hk2 => hk.block k hk2 (by simp)) (fun k hk2 => Nat.lt_of_lt_of_le hk2 hk.size)⟩
/-- The parts of an object at a block. -/
theorem RR.parts {w : World} {F : Nat → Prop} {l : List (Bs × J)} {b : Nat} (h : RR w F (.obj l) b) : ∃ (x : List (Bs × J × Nat)) (K L : Value), w.heap[b]? = some (vCells 123 0 [] K L) ∧ w.ownsRow 0 9 1 K x.length (x.map fun p => .string ⟨p.1.toArray⟩) ∧ w.ownsRow 0 0 1 L x.length (x.map fun p => ptr p.2.2) ∧
    Nod (x.map fun p : Bs × J × Nat => (p.1, p.2.1)) ∧ (∀ a j c, (a, j, c) ∈ x → RR w F j c) ∧ l = ofL (x.map fun p => (p.1, p.2.1)) := by
  generalize hJ : J.obj l = j at h
  cases h with
  | obj x K L hFb h hK hL hG hH hN hx =>
    injection hJ with hJ
    exact ⟨x, K, L, h, hK, hL, hN, hx, hJ⟩
  | _ => cases hJ
theorem child_len {k : Bs} {l : List (Bs × J)} {j : J} (h : lookK k l = some j) : (cJ j).length ≤ (cJ (.obj l)).length := by
  have hm := lookK_mem h
  have := (joinC_le (l.map cMem) 0).2 (cMem (k, j)) (List.mem_map.2 ⟨_, hm, rfl⟩)
  rw [cJ_obj]
  simp only [cMem, List.length_append, List.length_cons, List.length_nil] at this ⊢
  omega
end Go.Proofs.YtocligpfmfmihabGreatDoor
namespace Go.Proofs.YtocligpfmfmihabGreatDoor
open Go.Lib

/-! ### what a document of keys says -/
/-- A key of a document. -/
structure Ky where
  id : Bs
  key : Bs
  old : Bool
  till : Int
def kSrv : Bs := [115, 101, 114, 118, 101, 114, 95, 110, 97, 109, 101]
def kUnt : Bs := [118, 97, 108, 105, 100, 95, 117, 110, 116, 105, 108, 95, 116, 115]
def kVer : Bs := [118, 101, 114, 105, 102, 121, 95, 107, 101, 121, 115]
def kOld : Bs := [111, 108, 100, 95, 118, 101, 114, 105, 102, 121, 95, 107, 101, 121, 115]
def kKey : Bs := [107, 101, 121]
def kExp : Bs := [101, 120, 112, 105, 114, 101, 100, 95, 116, 115]
def isNm (s : Bs) : Bool := decide (1 ≤ s.length) && decide (s.length ≤ 20)
/-- The text of a value. -/
def strF : Option J → Option Bs | some (.str s) => some s | _ => none
def nameF (o : Option J) : Option Bs := (strF o).bind fun s => if isNm s then some s else none
/-- A moment. -/
def momF : Option J → Option Int | some (.num n) => if 0 ≤ n then some n else none | _ => none
/-- One key. -/
def keyF (old : Bool) (till : Int) (id : Bs) (j : J) : Option Ky :=
  if isNm id then
    match j with
    | .obj m => (strF (lookK kKey m)).bind fun k => if old then (momF (lookK kExp m)).map fun t => ⟨id, k, true, t⟩ else some ⟨id, k, false, till⟩
    | _ => none
  else none
def keysF (old : Bool) (till : Int) : List (Bs × J) → Option (List Ky)
  | [] => some []
  | (id, j) :: l => (keyF old till id j).bind fun k => (keysF old till l).map fun r => k :: r
/-- Both lists as one, in the order of the names; none: a name is in both. -/
def joinF (a b : List Ky) : Option (List Ky) :=
  if (((a ++ b).map (·.id)).Nodup) then some ((ofL ((a ++ b).map fun k => (k.id, k))).map (·.2)) else none
def oldF (l : List (Bs × J)) : Option (List Ky) := match lookK kOld l with | none => some [] | some (.obj m) => keysF true 0 m | some _ => none
def docF (l : List (Bs × J)) : Option (Bs × Int × List Ky) :=
  (nameF (lookK kSrv l)).bind fun s => (momF (lookK kUnt l)).bind fun u =>
    match lookK kVer l with
    | some (.obj m) => if 1 ≤ m.length ∧ m.length ≤ 4 then (keysF false u m).bind fun a => (oldF l).bind fun b => (joinF a b).map fun ks => (s, u, ks) else none
    | _ => none
theorem keysF_ids {old : Bool} {till : Int} : ∀ {l : List (Bs × J)} {r : List Ky}, keysF old till l = some r → r.map (·.id) = l.map (·.1) ∧ ∀ k ∈ r, k.old = old ∧ isNm k.id = true
  | [], r, h => by
    simp only [keysF, Option.some.injEq] at h
    subst h
    exact ⟨rfl, by simp⟩
  | (id, j) :: l, r, h => by
    simp only [keysF, Option.bind_eq_some_iff, Option.map_eq_some_iff] at h
    obtain ⟨k, hk, q, hq, rfl⟩ := h
    obtain ⟨h1, h2⟩ := keysF_ids hq
    have hk' : k.id = id ∧ k.old = old ∧ isNm id = true := by
      unfold keyF at hk
      split at hk
      · rename_i hn
        split at hk
        · simp only [Option.bind_eq_some_iff] at hk
          obtain ⟨a, _, hk⟩ := hk
          split at hk
          · rename_i ho
            simp only [Option.map_eq_some_iff] at hk
            obtain ⟨t, _, rfl⟩ := hk
            exact ⟨rfl, by simp [ho], hn⟩
          · rename_i ho
            simp only [Option.some.injEq] at hk
            subst hk
            exact ⟨rfl, by simpa using ho, hn⟩
        · cases hk
      · cases hk
    refine ⟨by simp [h1, hk'.1], ?_⟩
    intro x hx
    rcases List.mem_cons.1 hx with rfl | hx
    · exact ⟨hk'.2.1, by rw [hk'.1]; exact hk'.2.2⟩
    · exact h2 x hx
end Go.Proofs.YtocligpfmfmihabGreatDoor
namespace Go.Proofs.YtocligpfmfmihabGreatDoor
open Go Go.RowKit Go.Maps

/-- What stands at a pointer. -/
def PoJ (w : World) (po : Option Addr) (o : Option J) : Prop :=
  (po = none ∧ o = none) ∨ ∃ b j, po = some ⟨b, 0, none⟩ ∧ o = some j ∧ (cJ j).length ≤ 600 ∧ RR w (fun c => c < w.heap.size) j b
theorem PoJ.kp {w w' : World} {po : Option Addr} {o : Option J} (h : PoJ w po o) (hk : Kp (fun _ => False) w w') : PoJ w' po o := by
  rcases h with h | ⟨b, j, h1, h2, h0, h3⟩
  · exact Or.inl h
  · exact Or.inr ⟨b, j, h1, h2, h0, h3.frame (fun k hk2 => hk.block k hk2 (by simp)) (fun k hk2 => Nat.lt_of_lt_of_le hk2 hk.size)⟩
/-- The member of a key. -/
def memF (key : Bs) : Option J → Option J | some (.obj l) => lookK key l | _ => none
end Go.Proofs.YtocligpfmfmihabGreatDoor
namespace Go.Proofs.YtocligpfmfmihabGreatDoor
open Go Go.RowKit Go.Maps

theorem infoKey : (Tryz.prog.info? 148).map (fun i => (i.zero, i.size, i.bytes)) = some (some (.agg #[.string ⟨#[]⟩, .string ⟨#[]⟩, .bool false, .int .i64 0]), 4, 48) := by kernel_rfl
/-- The cells of a key. -/
def kyC (k : Ky) : List Value := [.string ⟨k.id.toArray⟩, .string ⟨k.key.toArray⟩, .bool k.old, .int .i64 k.till]
theorem keysF_snoc (old : Bool) (till : Int) (l : List (Bs × J)) (id : Bs) (j : J) : keysF old till (l ++ [(id, j)]) = (keysF old till l).bind fun r => (keyF old till id j).map fun k => r ++ [k] := by
  induction l with
  | nil => cases h : keyF old till id j <;> simp [keysF, h]
  | cons p l ih =>
    obtain ⟨a, q⟩ := p
    simp only [List.cons_append, keysF, ih]
    cases keyF old till a q with
    | none => rfl
    | some k =>
      simp only [Option.bind_some]
      cases keysF old till l with
      | none => rfl
      | some r => cases keyF old till id j <;> simp
theorem kyC_len (l : List Ky) : (l.flatMap kyC).length = l.length * 4 := by
  induction l with
  | nil => rfl
  | cons k l ih =>
    simp only [List.flatMap_cons, List.length_append, List.length_cons, ih, kyC, List.length_nil]
    omega
/-- One key, by its parts. -/
theorem keyF_parts (old : Bool) (till : Int) (id : Bs) (j : J) : keyF old till id j =
    if isNm id = true then (strF (memF kKey (some j))).bind fun k => if old then (momF (memF kExp (some j))).map fun t => ⟨id, k, true, t⟩ else some ⟨id, k, false, till⟩ else none := by
  unfold keyF
  by_cases h : isNm id = true
  · rw [if_pos h, if_pos h]
    cases j with
    | obj m => rfl
    | _ => rfl
  · rw [if_neg h, if_neg h]
end Go.Proofs.YtocligpfmfmihabGreatDoor
namespace Go.Proofs.YtocligpfmfmihabGreatDoor
open Go Go.RowKit Go.Maps

theorem flat_at (ks : List Ky) (i : Nat) (k : Ky) (h : ks[i]? = some k) (f : Nat) (hf : f < 4) : (ks.flatMap kyC)[i * 4 + f]? = (kyC k)[f]? := by
  induction ks generalizing i with
  | nil => cases h
  | cons a l ih =>
    cases i with
    | zero =>
      simp at h
      subst h
      rw [List.flatMap_cons, List.getElem?_append_left (by simp [kyC]; omega)]
      simp
    | succ i =>
      rw [List.flatMap_cons, List.getElem?_append_right (by simp [kyC]; omega)]
      have : (i + 1) * 4 + f - (kyC a).length = i * 4 + f := by simp [kyC]; omega
      rw [this]
      exact ih i (by simpa using h)
theorem ky_cells {w : World} {B : Nat} {g n c : Nat} {ks : List Ky} (h : w.ownsRow B 148 4 (.slice (some ⟨g, 0, none⟩) n c) n (ks.flatMap kyC)) (i : Nat) (k : Ky) (hk : ks[i]? = some k) :
    w.cell? ⟨g, i * 4, none⟩ = some (.string ⟨k.id.toArray⟩) ∧ w.cell? ⟨g, i * 4 + 1, none⟩ = some (.string ⟨k.key.toArray⟩) ∧ w.cell? ⟨g, i * 4 + 2, none⟩ = some (.bool k.old) ∧ w.cell? ⟨g, i * 4 + 3, none⟩ = some (.int .i64 k.till) := by
  have hc := h.cells (g := g) rfl
  have q : ∀ f u, f < 4 → (kyC k)[f]? = some u → w.cell? ⟨g, i * 4 + f, none⟩ = some u := by
    intro f u hf hu
    have := hc (i * 4 + f) u (by rw [flat_at ks i k hk f hf]; exact hu)
    rw [Addr.add_lit] at this
    simpa using this
  exact ⟨q 0 _ (by omega) rfl, q 1 _ (by omega) rfl, q 2 _ (by omega) rfl, q 3 _ (by omega) rfl⟩
theorem own_slice4 {w : World} {B : Nat} {e : TypeId} {v : Value} {n : Nat} {xs : List Value} (h : w.ownsRow B e 4 v n xs) : ∃ a c, v = .slice a n c ∧ (0 < n → ∃ g, a = some ⟨g, 0, none⟩ ∧ g < w.heap.size) := by
  have h2 := h
  obtain ⟨_, ⟨rfl, rfl⟩ | ⟨g, cap, cur, rfl, _⟩⟩ := h
  · exact ⟨_, _, rfl, fun h => absurd h (by omega)⟩
  · exact ⟨_, _, rfl, fun _ => ⟨g, rfl, (h2.lt g rfl).2⟩⟩
theorem ofL_lenK (ks : List Ky) (h : (ks.map (·.id)).Nodup) : ((ofL (ks.map fun k => (k.id, k))).map (·.2)).length = ks.length := by
  have hn : Nod (ks.map fun k => (k.id, k)) := by
    unfold Nod
    rw [List.map_map]
    exact h
  have := congrArg List.length (ordIx_ofL _ hn ks.length (by simp))
  rw [List.length_map, List.length_map, ordIx_len, List.take_of_length_le (by simp)] at this
  rw [List.length_map]
  exact this.symm
end Go.Proofs.YtocligpfmfmihabGreatDoor
namespace Go.Proofs.YtocligpfmfmihabGreatDoor
open Go Go.RowKit Go.Maps

theorem own_base {w : World} {B B' : Nat} {e : TypeId} {sz n : Nat} {v : Value} {xs : List Value} (hb : B ≤ B') (h : w.ownsRow B' e sz v n xs) : w.ownsRow B e sz v n xs := by
  obtain ⟨h1, h2⟩ := h
  refine ⟨h1, ?_⟩
  rcases h2 with h2 | ⟨g, cap, cur, rfl, hg, r⟩
  · exact Or.inl h2
  · exact Or.inr ⟨g, cap, cur, rfl, Nat.le_trans hb hg, r⟩
end Go.Proofs.YtocligpfmfmihabGreatDoor
namespace Go.Proofs.YtocligpfmfmihabGreatDoor
open Go.Lib

theorem insK_perm {α : Type} (k : Bs) (v : α) : ∀ (l : List (Bs × α)), lookK k l = none → (insK k v l).Perm ((k, v) :: l)
  | [], _ => List.Perm.refl _
  | (a, x) :: l, h => by
    have hne : a ≠ k := by
      intro e
      simp [lookK, e] at h
    have h' : lookK k l = none := by simpa [lookK, hne] using h
    unfold insK
    split
    · exact List.Perm.refl _
    · exact ((insK_perm k v l h').cons (a, x)).trans (List.Perm.swap _ _ _)
theorem ofL_perm_self {α : Type} (m : List (Bs × α)) (h : Nod m) : (ofL m).Perm m := by
  have : ∀ n (m : List (Bs × α)), m.length = n → Nod m → (ofL m).Perm m := by
    intro n
    induction n with
    | zero => intro m hm _; obtain rfl := List.eq_nil_of_length_eq_zero hm; exact List.Perm.refl _
    | succ n ih =>
      intro m hm hn
      have hne : m ≠ [] := by intro e; subst e; simp at hm
      obtain ⟨l, p, rfl⟩ : ∃ l p, m = l ++ [p] := ⟨m.dropLast, m.getLast hne, (List.dropLast_concat_getLast hne).symm⟩
      obtain ⟨a, x⟩ := p
      obtain ⟨h1, h2⟩ := (nod_snoc l a x).1 hn
      rw [ofL_snoc]
      have hl : lookK a (ofL l) = none := by rw [lookK_ofL _ _ h1]; exact h2
      refine (insK_perm a x _ hl).trans ?_
      refine ((ih l (by simpa using hm) h1).cons (a, x)).trans ?_
      exact (List.perm_append_singleton (a, x) l).symm
  exact this m.length m rfl h
theorem ofL_perm {α : Type} {a b : List (Bs × α)} (h : a.Perm b) (hn : Nod a) : ofL a = ofL b := by
  have hnb : Nod b := by
    unfold Nod at *
    exact ((h.map _).nodup_iff).1 hn
  have hp : (ofL a).Perm (ofL b) := ((ofL_perm_self a hn).trans h).trans (ofL_perm_self b hnb).symm
  refine List.Perm.eq_of_pairwise ?_ (srt_ofL a) (srt_ofL b) hp
  intro x y _ _ h1 h2
  exact absurd (lt_tr h1 h2) (lt_irr _)
end Go.Proofs.YtocligpfmfmihabGreatDoor

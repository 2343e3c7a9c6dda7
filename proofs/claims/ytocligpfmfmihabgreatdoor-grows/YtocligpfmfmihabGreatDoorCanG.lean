import Derived.Test.YtocligpfmfmihabGreatDoorObj2
import Derived.Test.YtocligpfmfmihabGreatDoorCoreG
import Derived.Test.YtocligpfmfmihabGreatDoorErr3
import Derived.Test.YtocligpfmfmihabGreatDoorWrt2G
import Derived.Test.YtocligpfmfmihabGreatDoorRef10G
import Derived.Test.YtocligpfmfmihabGreatDoorRefG
import Derived.Laws.Cover4
import Derived.Test.YtocligpfmfmihabGreatDoorRd3G
namespace Go.Proofs.YtocligpfmfmihabGreatDoor
open Go Go.RowKit Go.Maps Go.WideMaps

mutual
theorem cnt_le : ∀ (j : J), cnt j ≤ (cJ j).length
  | .null => by simp [cnt]
  | .bool _ => by simp [cnt]
  | .num _ => by simp [cnt]
  | .str _ => by simp [cnt]
  | .arr l => by
    have h := cnts_le l
    rw [cnt, cJ, cJs_map]
    simp only [List.length_cons, List.length_append, List.length_nil]
    omega
  | .obj l => by
    have h := cntm_le l
    rw [cnt, cJ_obj]
    simp only [List.length_cons, List.length_append, List.length_nil]
    omega
theorem cnts_le : ∀ (l : List J), cnts l ≤ (joinC (l.map cJ)).length + 1
  | [] => by simp [cnts]
  | [x] => by
    have h := cnt_le x
    simp only [cnts, List.map_cons, List.map_nil, joinC]
    omega
  | x :: y :: l => by
    have h := cnt_le x
    have h2 := cnts_le (y :: l)
    rw [cnts]
    simp only [List.map_cons, joinC, List.length_append, List.length_cons] at h2 ⊢
    omega
theorem cntm_le : ∀ (l : List (Bs × J)), cntm l ≤ (joinC (l.map cMem)).length + 1
  | [] => by simp [cntm]
  | [(k, x)] => by
    have h := cnt_le x
    simp only [cntm, List.map_cons, List.map_nil, joinC, cMem, List.length_append, List.length_cons]
    omega
  | (k, x) :: y :: l => by
    have h := cnt_le x
    have h2 := cntm_le (y :: l)
    rw [cntm]
    simp only [List.map_cons, joinC, List.length_append, List.length_cons, cMem] at h2 ⊢
    omega
end

/-- appendValue, at every value of this kind. -/
theorem app_all (W : World) (hG : GL W) : ∀ (d : Nat) (j : J), WF d j → cnt j ≤ 1000000 → AppC W j
  | _, .null, _, _ => app_null W
  | _, .bool b, _, _ => app_bool W b
  | d, .num n, h, _ => app_num W hG n (by cases d <;> simpa [WF] using h)
  | _, .str s, _, _ => app_strv W s
  | d + 1, .arr l, h, hc => by
    rw [WF] at h
    rw [cnt] at hc
    exact app_arr W l (fun x hx => app_all W hG d x (WFs_mem d l x h hx) (by have := (cnts_ge l).2 x hx; omega))
  | d + 1, .obj l, h, hc => by
    rw [WF] at h
    rw [cnt] at hc
    refine app_obj W l (appendObject_c W l (fun p hp => app_all W hG d p.2 (WFm_mem' d l p h.2 hp) (by have := (cntm_ge l).2 p hp; omega)) h.1 ?_)
    have := (cntm_ge l).1
    omega
  | 0, .arr _, h, _ => by simp [WF] at h
  | 0, .obj _, h, _ => by simp [WF] at h

theorem nil_row (B : Nat) (w : World) : Row B w (.slice none 0 0) [] := ⟨rfl, Or.inl ⟨rfl, rfl⟩⟩
/-- value.Canon. -/
theorem vcanon_c (W : World) (hG : GL W) (d : Nat) (j : J) (hj : WF d j) (hc : cnt j ≤ 1000000) (hlen : (cnt j + 1) * ((cJ j).length + 2) ≤ 139000000000000) (F : Nat → Prop) (v : Value) (w : World) (hW : Below W.heap.size W w) (hr : Rep w F j v) :
    Calls Tryz.prog 32 #[v] w fun e w' => e = .returned (.string ⟨(cJ j).toArray⟩) ∧ Wr w.heap.size w w' := by
  obtain ⟨tt, u, rfl⟩ := Rep.iface hr
  go_enter Tryz.func32, Tryz.ntmps32
  go_wp2_with fail
  refine (app_all W hG d j hj hc w.heap.size w (.slice none 0 0) [] F (.iface tt u) (cJ j).length hW hW.size (nil_row _ _) (Nat.le_refl _) hr (Nat.le_refl _) (by simpa using hlen)).mono ?_
  rintro e w2 ⟨v', rfl, z1, z2⟩
  have hconv := own_string z1
  clear z1
  simp only [List.nil_append] at hconv
  have HZ := hide z2
  clear z2
  go_wp2
  go_ret
  exact ⟨rfl, HZ.out⟩
end Go.Proofs.YtocligpfmfmihabGreatDoor
namespace Go.Proofs.YtocligpfmfmihabGreatDoor
open Go Go.RowKit Go.Extern.Stop Go.Stop Go.Extern

/-- What the variables of the program hold. -/
structure NG (W : World) : Prop where
  gl : GL W
  ety : W.cell? ⟨6, 0, none⟩ = some (.iface 237 ((Value.agg #[Value.pointer (some (Addr.mk 31 58 none))])))
  lon : ∃ a c t, W.cell? ⟨3, 0, none⟩ = some (errV a) ∧ W.heap[a.block]? = some (.cells c t)
  obj : ∃ a c t, W.cell? ⟨4, 0, none⟩ = some (errV a) ∧ W.heap[a.block]? = some (.cells c t)
  ne : ∀ a, W.cell? ⟨3, 0, none⟩ = some (errV a) → W.cell? ⟨4, 0, none⟩ ≠ some (errV a)

/-- The error ev has the number n. -/
def EV (W w : World) (ev : Value) (n : Nat) : Prop :=
  (n = 1 ∧ W.cell? ⟨3, 0, none⟩ = some ev) ∨ (n = 2 ∧ ∃ fb, ev = .iface 130 (.pointer (some ⟨fb, 0, none⟩)) ∧ FaultAt W w fb) ∨ (n = 3 ∧ W.cell? ⟨4, 0, none⟩ = some ev)

/-- The three variables of errno. -/
def w3 (w : World) : World := ((w.alloc (.cells #[.pointer none] 130)).alloc (.cells #[.pointer none] 131)).alloc (.cells #[.pointer none] 111)
theorem w3_kp (w : World) : Kp (fun _ => False) w (w3 w) := (((Kp.refl _ w).alloc _).alloc _).alloc _
theorem w3_tb (w : World) : (w3 w).heap[w.heap.size]? = some (.cells #[.pointer none] 130) := by
  unfold w3
  rw [Below.heap_alloc _ _ _ (by simp; omega)]
  exact (two_new w _ _).1
theorem Kp.heap {w w' : World} {k : Nat} {o : Obj} (h : Kp (fun _ => False) w w') (hk : w.heap[k]? = some o) : w'.heap[k]? = some o := (h.block k (lt_heap hk) (by simp)).trans hk
theorem Kp.cel {w w' : World} {a : Addr} {o : Value} (h : Kp (fun _ => False) w w') (hk : w.cell? a = some o) : w'.cell? a = some o := (h.cell (lt_cell hk) (by simp)).trans hk
theorem Below.hp {W w : World} {k : Nat} {o : Obj} (h : Below W.heap.size W w) (hk : W.heap[k]? = some o) : w.heap[k]? = some o := (h.block k (lt_heap hk)).trans hk
theorem Below.cl {W w : World} {a : Addr} {o : Value} (h : Below W.heap.size W w) (hk : W.cell? a = some o) : w.cell? a = some o := (h.cell (lt_cell hk)).trans hk

set_option maxRecDepth 20000 in
theorem errno_long (W : World) (hN : NG W) (w : World) (hW : Below W.heap.size W w) (ev : Value) (he : W.cell? ⟨3, 0, none⟩ = some ev) :
    Calls Tryz.prog 30 #[ev] w fun e w' => e = .returned (.int .i64 1) ∧ Kp (fun _ => False) w w' := by
  obtain ⟨a, c, t, h1, h2⟩ := hN.lon
  rw [he] at h1
  injection h1 with h1
  subst h1
  have hc := (w3_kp w).cel (Below.cl hW he)
  have HK := hide (w3_kp w)
  clear he
  unfold w3 at hc HK
  unfold errV at hc ⊢
  go_enter Tryz.func30, Tryz.ntmps30
  go_wp2_with fail
  refine (is_same a _).mono ?_
  rintro e w' ⟨rfl, rfl⟩
  go_wp2
  go_ret
  exact ⟨rfl, HK.out⟩
set_option maxRecDepth 20000 in
theorem errno_fault (W : World) (hN : NG W) (w : World) (hW : Below W.heap.size W w) (fb : Nat) (hf : FaultAt W w fb) :
    Calls Tryz.prog 30 #[.iface 130 (.pointer (some ⟨fb, 0, none⟩))] w fun e w' => e = .returned (.int .i64 2) ∧ Kp (fun _ => False) w w' := by
  obtain ⟨a, c, t, h1, h2⟩ := hN.lon
  obtain ⟨k, g, cb, f1, f2, f3, f4⟩ := hf
  obtain ⟨f5, c', t', f6⟩ := f4 3 (by simp)
  have hne : cb ≠ a := by rintro rfl; exact f5 h1
  have hc := (w3_kp w).cel (Below.cl hW h1)
  have H := hide (And.intro (w3_kp w) (And.intro ((w3_kp w).heap f1) (And.intro ((w3_kp w).heap (Below.hp hW f6)) (And.intro ((w3_kp w).heap (Below.hp hW h2)) (And.intro ((w3_kp w).cel (Below.cl hW hN.ety)) (w3_tb w))))))
  clear f1 f2 f4 f5 f6 h1 h2
  unfold w3 at hc H
  unfold errV at hc
  go_enter Tryz.func30, Tryz.ntmps30
  go_wp2_with fail
  refine (is_fault fb cb a _ _ _ _ _ _ H.out.2.1 hne H.out.2.2.1 H.out.2.2.2.1).mono ?_
  rintro e w' ⟨rfl, rfl⟩
  go_wp2_with fail
  refine (as_hit fb w.heap.size _ _ H.out.2.2.2.2.1 H.out.2.2.2.2.2).mono ?_
  rintro e w' ⟨rfl, hk⟩
  have HK := hide (H.out.1.and (S := fun _ => False) hk (by intro i hi e; omega))
  clear hk
  go_wp2
  go_ret
  exact ⟨rfl, HK.out⟩
set_option maxRecDepth 20000 in
theorem errno_obj (W : World) (hN : NG W) (w : World) (hW : Below W.heap.size W w) (ev : Value) (he : W.cell? ⟨4, 0, none⟩ = some ev) :
    Calls Tryz.prog 30 #[ev] w fun e w' => e = .returned (.int .i64 3) ∧ Kp (fun _ => False) w w' := by
  obtain ⟨a, c, t, h1, h2⟩ := hN.lon
  obtain ⟨b, c', t', h3, h4⟩ := hN.obj
  rw [he] at h3
  injection h3 with h3
  subst h3
  have hne : b ≠ a := by rintro rfl; exact hN.ne _ h1 he
  have hc := (w3_kp w).cel (Below.cl hW h1)
  have H := hide (And.intro (w3_kp w) (And.intro ((w3_kp w).cel (Below.cl hW he)) (And.intro ((w3_kp w).heap (Below.hp hW h4)) (And.intro ((w3_kp w).heap (Below.hp hW h2)) (And.intro ((w3_kp w).cel (Below.cl hW hN.ety)) (w3_tb w))))))
  clear h1 h2 h4 he
  unfold w3 at hc H
  unfold errV at hc ⊢
  go_enter Tryz.func30, Tryz.ntmps30
  go_wp2_with fail
  refine (is_other b a _ _ _ _ _ hne H.out.2.2.1 H.out.2.2.2.1).mono ?_
  rintro e w' ⟨rfl, rfl⟩
  go_wp2_with fail
  refine (as_miss b w.heap.size _ _ H.out.2.2.2.2.1 H.out.2.2.2.2.2).mono ?_
  rintro e w' ⟨rfl, hk⟩
  have HK := hide (H.out.1.trans hk)
  have hc2 := hk.cel H.out.2.1
  unfold errV at hc2
  clear hk hc
  go_wp2_with fail
  refine (is_same b _).mono ?_
  rintro e w' ⟨rfl, rfl⟩
  go_wp2
  go_ret
  exact ⟨rfl, HK.out⟩
/-- notary.errno. -/
theorem errno_c (W : World) (hN : NG W) (w : World) (hW : Below W.heap.size W w) (ev : Value) (n : Nat) (he : EV W w ev n) :
    Calls Tryz.prog 30 #[ev] w fun e w' => e = .returned (.int .i64 n) ∧ Kp (fun _ => False) w w' := by
  rcases he with ⟨rfl, h⟩ | ⟨rfl, fb, rfl, h⟩ | ⟨rfl, h⟩
  · exact errno_long W hN w hW ev h
  · exact errno_fault W hN w hW fb h
  · exact errno_obj W hN w hW ev h
end Go.Proofs.YtocligpfmfmihabGreatDoor
namespace Go.Proofs.YtocligpfmfmihabGreatDoor
open Go Go.RowKit Go.Extern.Stop Go.Stop Go.Extern

/-- What readValue comes to. -/
def RvR (W w : World) (l : Bs) (e : Ending) (w' : World) : Prop := Kp (fun _ => False) w w' ∧ ((∃ j v, valueF l = .ok j ∧ e = .returned (.tuple #[v, .nilIface]) ∧ Rep w' (fun b => w.heap.size ≤ b ∧ b < w'.heap.size) j v) ∨
    (∃ n ev, valueF l = .error n ∧ e = .returned (.tuple #[.nilIface, ev]) ∧ EV W w' ev n ∧ ∃ t u, ev = .iface t u))

theorem dlen (s : ByteArray) : s.data.toList.length = s.size := by rw [Array.length_toList]; rfl
set_option maxRecDepth 20000 in
theorem readValue_c (W : World) (hN : NG W) (s : ByteArray) (w : World) (hW : Below W.heap.size W w) :
    Calls Tryz.prog 56 #[.string s] w fun e w' => RvR W w s.data.toList e w' := by
  obtain ⟨a, c, t, h1, h2⟩ := hN.lon
  have hc := Below.cl hW h1
  have hsl := dlen s
  by_cases hs : 600 < s.size
  · have hd : decide ((600 : Int) < (s.size : Int)) = true := by simp; omega
    have HE : Hid (EV W w (errV a) 1) := Or.inl ⟨rfl, h1⟩
    have HV := hide (show valueF s.data.toList = .error 1 by unfold valueF; rw [if_pos (by omega)])
    unfold errV at hc HE
    clear h1 h2
    go_enter Tryz.func56, Tryz.ntmps56
    go_wp2
    go_quiet (fail)
    go_wp2
    go_ret2
    exact ⟨(Kp.refl _ _).drewN _, Or.inr ⟨1, _, HV.out, rfl, HE.out, _, _, rfl⟩⟩
  · have hd : decide ((600 : Int) < (s.size : Int)) = false := by simp; omega
    have hs' : s.size ≤ 600 := by omega
    clear h1 h2
    go_enter Tryz.func56, Tryz.ntmps56
    go_wp2_with fail
    refine (parse_c W hN.gl s hs' w hW).mono ?_
    rintro e w' ⟨hk, h⟩
    have HV := hide (show valueF s.data.toList = match parse s.data.toList with | none => .error 2 | some j => .ok j by unfold valueF; rw [if_neg (by omega)]; cases parse s.data.toList <;> rfl)
    have HK := hide hk
    clear hk
    rcases h with ⟨j, v, hp, rfl, hr⟩ | ⟨hp, fb, rfl, h3, h4⟩
    · obtain ⟨tt, u, rfl⟩ := Rep.iface hr
      have HR : Hid (RvR W w s.data.toList (.returned (.tuple #[.iface tt u, .nilIface])) w') := ⟨HK.out, Or.inl ⟨j, _, by rw [HV.out, hp], rfl, hr⟩⟩
      clear hp hr
      go_wp2
      go_ret2
      exact HR.out
    · have HR : Hid (RvR W w s.data.toList (.returned (.tuple #[.nilIface, .iface 130 (.pointer (some ⟨fb, 0, none⟩))])) w') := ⟨HK.out, Or.inr ⟨2, _, by rw [HV.out, hp], rfl, Or.inr (Or.inl ⟨rfl, fb, rfl, h4⟩), _, _, rfl⟩⟩
      clear hp h3 h4
      go_wp2
      go_ret2
      exact HR.out
/-- What a call that hands back a text and a number comes to. -/
def AnsR (w : World) (r : Bs × Nat) (e : Ending) (w' : World) : Prop := e = .returned (.tuple #[.string ⟨r.1.toArray⟩, .int .i64 r.2]) ∧ Kp (fun _ => False) w w'
theorem kp_wr {w w2 : World} (h : Wr w.heap.size w w2) : Kp (fun _ => False) w w2 := ⟨h.below.os, h.below.tape, h.below.output, h.below.size, fun k hk _ => h.below.block k hk⟩
end Go.Proofs.YtocligpfmfmihabGreatDoor
namespace Go.Proofs.YtocligpfmfmihabGreatDoor
open Go Go.RowKit

theorem c12 : cJ (.num 1) = [49] ∧ cJ (.num 2) = [50] := by
  constructor <;> (rw [cJ, cNum, if_neg (by decide), decN, if_pos (by decide)]; rfl)
def bA (s : Bs) : ByteArray := ⟨s.toArray⟩
end Go.Proofs.YtocligpfmfmihabGreatDoor
namespace Go.Proofs.YtocligpfmfmihabGreatDoor
open Go Go.RowKit Go.Maps

/-- The sign of a tree's kind. -/
def rkind : J → Nat | .null => 110 | .bool true => 116 | .bool false => 102 | .num _ => 35 | .str _ => 34 | .arr _ => 91 | .obj _ => 123
theorem RR.kind {w : World} {F : Nat → Prop} {j : J} {b : Nat} (h : RR w F j b) : ∃ n t K L, w.heap[b]? = some (vCells (rkind j) n t K L) := by
  cases h with
  | null hF h => exact ⟨_, _, _, _, h⟩
  | tt hF h => exact ⟨_, _, _, _, h⟩
  | ff hF h => exact ⟨_, _, _, _, h⟩
  | num n hn hF h => exact ⟨_, _, _, _, h⟩
  | str t hF h => exact ⟨_, _, _, _, h⟩
  | arr x L hF h => exact ⟨_, _, _, _, h⟩
  | obj x K L hF h => exact ⟨_, _, _, _, h⟩
/-- An object under work, at block vb. -/
structure BaI (lo vb : Nat) (y : List (Bs × Nat)) (K L : Value) (w : World) : Prop where
  blk : w.heap[vb]? = some (vCells 123 0 [] K L)
  rowK : w.ownsRow lo 9 1 K y.length (y.map fun p => .string ⟨p.1.toArray⟩)
  rowL : w.ownsRow lo 0 1 L y.length (y.map fun p => ptr p.2)
  ownK : ∀ k, K.ownBlock = some k → k ≠ vb
  ownL : ∀ k, L.ownBlock = some k → k ≠ vb
  kl : ∀ k, K.ownBlock = some k → L.ownBlock ≠ some k
structure BaK (lo vb : Nat) (y : List (Bs × Nat)) (a : Bs) (K L : Value) (w : World) : Prop where
  blk : w.heap[vb]? = some (vCells 123 0 [] K L)
  rowK : w.ownsRow lo 9 1 K (y.length + 1) ((y.map fun p => .string ⟨p.1.toArray⟩) ++ [.string ⟨a.toArray⟩])
  rowL : w.ownsRow lo 0 1 L y.length (y.map fun p => ptr p.2)
  ownK : ∀ k, K.ownBlock = some k → k ≠ vb
  ownL : ∀ k, L.ownBlock = some k → k ≠ vb
  kl : ∀ k, K.ownBlock = some k → L.ownBlock ≠ some k
theorem BaI.key {lo vb : Nat} {y : List (Bs × Nat)} {a : Bs} {K L K' : Value} {w5 w6 : World} (h : BaI lo vb y K L w5) (B : Kp (fun k => K.ownBlock = some k) w5 w6)
    (y1 : w6.ownsRow lo 9 1 K' (y.length + 1) ((y.map fun p => .string ⟨p.1.toArray⟩) ++ [.string ⟨a.toArray⟩])) (y3 : K'.ownBlock = K.ownBlock ∨ ∃ q, w5.heap.size ≤ q ∧ K'.ownBlock = some q) :
    BaK lo vb y a K' L (w6.setCell ⟨vb, 3, none⟩ K') := by
  have hvb := lt_heap h.blk
  have own' : ∀ k, K'.ownBlock = some k → k ≠ vb ∧ L.ownBlock ≠ some k := by
    intro k hk
    rcases y3 with e | ⟨q, hq, e⟩
    · rw [e] at hk
      exact ⟨h.ownK k hk, h.kl k hk⟩
    · rw [e] at hk
      injection hk with hk
      exact ⟨by omega, fun hl => by have := (h.rowL.lt k hl).2; omega⟩
  have h6 : w6.heap[vb]? = some (vCells 123 0 [] K L) := (B.block vb hvb (fun e => h.ownK _ e rfl)).trans h.blk
  refine ⟨?_, ?_, ?_, fun k hk => (own' k hk).1, h.ownL, fun k hk => (own' k hk).2⟩
  · simp [World.setCell, Array.getElem?_modify, h6, vCells]
  · exact ownsRow_heap y1 fun k hk => heap_set_other (own' k hk).1
  · refine ownsRow_heap h.rowL fun k hk => ?_
    rw [heap_set_other (h.ownL k hk), B.block k (h.rowL.lt k hk).2 (fun e => h.kl k e hk)]
theorem BaK.more {lo vb b : Nat} {y : List (Bs × Nat)} {a : Bs} {K L L' : Value} {w7 w8 : World} (h : BaK lo vb y a K L w7) (B : Kp (fun k => L.ownBlock = some k) w7 w8)
    (y1 : w8.ownsRow lo 0 1 L' (y.length + 1) ((y.map fun p => ptr p.2) ++ [ptr b])) (y3 : L'.ownBlock = L.ownBlock ∨ ∃ q, w7.heap.size ≤ q ∧ L'.ownBlock = some q) :
    BaI lo vb (y ++ [(a, b)]) K L' (w8.setCell ⟨vb, 4, none⟩ L') := by
  have hvb := lt_heap h.blk
  have own' : ∀ k, L'.ownBlock = some k → k ≠ vb ∧ K.ownBlock ≠ some k := by
    intro k hk
    rcases y3 with e | ⟨q, hq, e⟩
    · rw [e] at hk
      exact ⟨h.ownL k hk, fun e => h.kl k e hk⟩
    · rw [e] at hk
      injection hk with hk
      exact ⟨by omega, fun e => by have := (h.rowK.lt k e).2; omega⟩
  have h8 : w8.heap[vb]? = some (vCells 123 0 [] K L) := (B.block vb hvb (fun e => h.ownL _ e rfl)).trans h.blk
  refine ⟨?_, ?_, ?_, h.ownK, fun k hk => (own' k hk).1, fun k hk e => (own' k e).2 hk⟩
  · simp [World.setCell, Array.getElem?_modify, h8, vCells]
  · rw [List.length_append, List.map_append]
    refine ownsRow_heap h.rowK fun k hk => ?_
    rw [heap_set_other (h.ownK k hk), B.block k (h.rowK.lt k hk).2 (fun e => h.kl k hk e)]
  · rw [List.length_append, List.map_append]
    exact ownsRow_heap y1 fun k hk => heap_set_other (own' k hk).1
end Go.Proofs.YtocligpfmfmihabGreatDoor

import Derived.Test.YtocligpfmfmihaaGreatDoorObj2
import Derived.Test.YtocligpfmfmihaaGreatDoorCore
import Derived.Test.YtocligpfmfmihaaGreatDoorErr3
import Derived.Shelf.SlMaps.Clone
import Derived.Shelf.SlMaps.Copy
import Derived.Test.YtocligpfmfmihaaGreatDoorProg
import Derived.Maps.OwnSet
import Derived.WideMake
namespace Go.Proofs.YtocligpfmfmihaaGreatDoor
open Go Go.RowKit Go.Maps Go.WideMaps

mutual
theorem cnt_le : ∀ (j : J), cnt j ≤ (cJ j).length
  | .null => by simp [cnt]
  | .bool _ => by simp [cnt]
  | .num _ => by simp [cnt]
  | .str _ => by simp [cnt]
  | .arr l => by
    have h := cnts_le l
    rw [cnt, cJ, cJs_map]
    simp only [List.length_cons, List.length_append, List.length_nil]
    omega
  | .obj l => by
    have h := cntm_le l
    rw [cnt, cJ_obj]
    simp only [List.length_cons, List.length_append, List.length_nil]
    omega
theorem cnts_le : ∀ (l : List J), cnts l ≤ (joinC (l.map cJ)).length + 1
  | [] => by simp [cnts]
  | [x] => by
    have h := cnt_le x
    simp only [cnts, List.map_cons, List.map_nil, joinC]
    omega
  | x :: y :: l => by
    have h := cnt_le x
    have h2 := cnts_le (y :: l)
    rw [cnts]
    simp only [List.map_cons, joinC, List.length_append, List.length_cons] at h2 ⊢
    omega
theorem cntm_le : ∀ (l : List (Bs × J)), cntm l ≤ (joinC (l.map cMem)).length + 1
  | [] => by simp [cntm]
  | [(k, x)] => by
    have h := cnt_le x
    simp only [cntm, List.map_cons, List.map_nil, joinC, cMem, List.length_append, List.length_cons]
    omega
  | (k, x) :: y :: l => by
    have h := cnt_le x
    have h2 := cntm_le (y :: l)
    rw [cntm]
    simp only [List.map_cons, joinC, List.length_append, List.length_cons, cMem] at h2 ⊢
    omega
end

/-- appendValue, at every value of this kind. -/
theorem app_all (W : World) (hG : GL W) : ∀ (d : Nat) (j : J), WF d j → cnt j ≤ 1000000 → AppC W j
  | _, .null, _, _ => app_null W
  | _, .bool b, _, _ => app_bool W b
  | d, .num n, h, _ => app_num W hG n (by cases d <;> simpa [WF] using h)
  | _, .str s, _, _ => app_strv W s
  | d + 1, .arr l, h, hc => by
    rw [WF] at h
    rw [cnt] at hc
    exact app_arr W l (fun x hx => app_all W hG d x (WFs_mem d l x h hx) (by have := (cnts_ge l).2 x hx; omega))
  | d + 1, .obj l, h, hc => by
    rw [WF] at h
    rw [cnt] at hc
    refine app_obj W l (appendObject_c W l (fun p hp => app_all W hG d p.2 (WFm_mem' d l p h.2 hp) (by have := (cntm_ge l).2 p hp; omega)) h.1 ?_)
    have := (cntm_ge l).1
    omega
  | 0, .arr _, h, _ => by simp [WF] at h
  | 0, .obj _, h, _ => by simp [WF] at h

theorem nil_row (B : Nat) (w : World) : Row B w (.slice none 0 0) [] := ⟨rfl, Or.inl ⟨rfl, rfl⟩⟩
/-- value.Canon. -/
theorem vcanon_c (W : World) (hG : GL W) (d : Nat) (j : J) (hj : WF d j) (hc : cnt j ≤ 1000000) (hlen : (cnt j + 1) * ((cJ j).length + 2) ≤ 139000000000000) (F : Nat → Prop) (v : Value) (w : World) (hW : Below W.heap.size W w) (hr : Rep w F j v) :
    Calls Tryz.prog 36 #[v] w fun e w' => e = .returned (.string ⟨(cJ j).toArray⟩) ∧ Wr w.heap.size w w' := by
  obtain ⟨tt, u, rfl⟩ := Rep.iface hr
  go_enter Tryz.func36, Tryz.ntmps36
  go_wp2_with fail
  refine (app_all W hG d j hj hc w.heap.size w (.slice none 0 0) [] F (.iface tt u) (cJ j).length hW hW.size (nil_row _ _) (Nat.le_refl _) hr (Nat.le_refl _) (by simpa using hlen)).mono ?_
  rintro e w2 ⟨v', rfl, z1, z2⟩
  have hconv := own_string z1
  clear z1
  simp only [List.nil_append] at hconv
  have HZ := hide z2
  clear z2
  go_wp2
  go_ret
  exact ⟨rfl, HZ.out⟩
end Go.Proofs.YtocligpfmfmihaaGreatDoor
namespace Go.Proofs.YtocligpfmfmihaaGreatDoor
open Go Go.RowKit Go.Extern.Stop Go.Stop Go.Extern

/-- What the variables of the program hold. -/
structure NG (W : World) : Prop where
  gl : GL W
  ety : W.cell? ⟨9, 0, none⟩ = some (.iface 289 ((Value.agg #[Value.pointer (some (Addr.mk 31 61 none))])))
  lon : ∃ a c t, W.cell? ⟨0, 0, none⟩ = some (errV a) ∧ W.heap[a.block]? = some (.cells c t)
  obj : ∃ a c t, W.cell? ⟨1, 0, none⟩ = some (errV a) ∧ W.heap[a.block]? = some (.cells c t)
  ne : ∀ a, W.cell? ⟨0, 0, none⟩ = some (errV a) → W.cell? ⟨1, 0, none⟩ ≠ some (errV a)

/-- The error ev has the number n. -/
def EV (W w : World) (ev : Value) (n : Nat) : Prop :=
  (n = 1 ∧ W.cell? ⟨0, 0, none⟩ = some ev) ∨ (n = 2 ∧ ∃ fb, ev = .iface 116 (.pointer (some ⟨fb, 0, none⟩)) ∧ FaultAt W w fb) ∨ (n = 3 ∧ W.cell? ⟨1, 0, none⟩ = some ev)

/-- The three variables of errno. -/
def w3 (w : World) : World := ((w.alloc (.cells #[.pointer none] 116)).alloc (.cells #[.pointer none] 117)).alloc (.cells #[.pointer none] 118)
theorem w3_kp (w : World) : Kp (fun _ => False) w (w3 w) := (((Kp.refl _ w).alloc _).alloc _).alloc _
theorem w3_tb (w : World) : (w3 w).heap[w.heap.size]? = some (.cells #[.pointer none] 116) := by
  unfold w3
  rw [Below.heap_alloc _ _ _ (by simp; omega)]
  exact (two_new w _ _).1
theorem Kp.heap {w w' : World} {k : Nat} {o : Obj} (h : Kp (fun _ => False) w w') (hk : w.heap[k]? = some o) : w'.heap[k]? = some o := (h.block k (lt_heap hk) (by simp)).trans hk
theorem Kp.cel {w w' : World} {a : Addr} {o : Value} (h : Kp (fun _ => False) w w') (hk : w.cell? a = some o) : w'.cell? a = some o := (h.cell (lt_cell hk) (by simp)).trans hk
theorem Below.hp {W w : World} {k : Nat} {o : Obj} (h : Below W.heap.size W w) (hk : W.heap[k]? = some o) : w.heap[k]? = some o := (h.block k (lt_heap hk)).trans hk
theorem Below.cl {W w : World} {a : Addr} {o : Value} (h : Below W.heap.size W w) (hk : W.cell? a = some o) : w.cell? a = some o := (h.cell (lt_cell hk)).trans hk

set_option maxRecDepth 20000 in
theorem errno_long (W : World) (hN : NG W) (w : World) (hW : Below W.heap.size W w) (ev : Value) (he : W.cell? ⟨0, 0, none⟩ = some ev) :
    Calls Tryz.prog 35 #[ev] w fun e w' => e = .returned (.int .i64 1) ∧ Kp (fun _ => False) w w' := by
  obtain ⟨a, c, t, h1, h2⟩ := hN.lon
  rw [he] at h1
  injection h1 with h1
  subst h1
  have hc := (w3_kp w).cel (Below.cl hW he)
  have HK := hide (w3_kp w)
  clear he
  unfold w3 at hc HK
  unfold errV at hc ⊢
  go_enter Tryz.func35, Tryz.ntmps35
  go_wp2_with fail
  refine (is_same a _).mono ?_
  rintro e w' ⟨rfl, rfl⟩
  go_wp2
  go_ret
  exact ⟨rfl, HK.out⟩
set_option maxRecDepth 20000 in
theorem errno_fault (W : World) (hN : NG W) (w : World) (hW : Below W.heap.size W w) (fb : Nat) (hf : FaultAt W w fb) :
    Calls Tryz.prog 35 #[.iface 116 (.pointer (some ⟨fb, 0, none⟩))] w fun e w' => e = .returned (.int .i64 2) ∧ Kp (fun _ => False) w w' := by
  obtain ⟨a, c, t, h1, h2⟩ := hN.lon
  obtain ⟨k, g, cb, f1, f2, f3, f4⟩ := hf
  obtain ⟨f5, c', t', f6⟩ := f4 0 (by simp)
  have hne : cb ≠ a := by rintro rfl; exact f5 h1
  have hc := (w3_kp w).cel (Below.cl hW h1)
  have H := hide (And.intro (w3_kp w) (And.intro ((w3_kp w).heap f1) (And.intro ((w3_kp w).heap (Below.hp hW f6)) (And.intro ((w3_kp w).heap (Below.hp hW h2)) (And.intro ((w3_kp w).cel (Below.cl hW hN.ety)) (w3_tb w))))))
  clear f1 f2 f4 f5 f6 h1 h2
  unfold w3 at hc H
  unfold errV at hc
  go_enter Tryz.func35, Tryz.ntmps35
  go_wp2_with fail
  refine (is_fault fb cb a _ _ _ _ _ _ H.out.2.1 hne H.out.2.2.1 H.out.2.2.2.1).mono ?_
  rintro e w' ⟨rfl, rfl⟩
  go_wp2_with fail
  refine (as_hit fb w.heap.size _ _ H.out.2.2.2.2.1 H.out.2.2.2.2.2).mono ?_
  rintro e w' ⟨rfl, hk⟩
  have HK := hide (H.out.1.and (S := fun _ => False) hk (by intro i hi e; omega))
  clear hk
  go_wp2
  go_ret
  exact ⟨rfl, HK.out⟩
set_option maxRecDepth 20000 in
theorem errno_obj (W : World) (hN : NG W) (w : World) (hW : Below W.heap.size W w) (ev : Value) (he : W.cell? ⟨1, 0, none⟩ = some ev) :
    Calls Tryz.prog 35 #[ev] w fun e w' => e = .returned (.int .i64 3) ∧ Kp (fun _ => False) w w' := by
  obtain ⟨a, c, t, h1, h2⟩ := hN.lon
  obtain ⟨b, c', t', h3, h4⟩ := hN.obj
  rw [he] at h3
  injection h3 with h3
  subst h3
  have hne : b ≠ a := by rintro rfl; exact hN.ne _ h1 he
  have hc := (w3_kp w).cel (Below.cl hW h1)
  have H := hide (And.intro (w3_kp w) (And.intro ((w3_kp w).cel (Below.cl hW he)) (And.intro ((w3_kp w).heap (Below.hp hW h4)) (And.intro ((w3_kp w).heap (Below.hp hW h2)) (And.intro ((w3_kp w).cel (Below.cl hW hN.ety)) (w3_tb w))))))
  clear h1 h2 h4 he
  unfold w3 at hc H
  unfold errV at hc ⊢
  go_enter Tryz.func35, Tryz.ntmps35
  go_wp2_with fail
  refine (is_other b a _ _ _ _ _ hne H.out.2.2.1 H.out.2.2.2.1).mono ?_
  rintro e w' ⟨rfl, rfl⟩
  go_wp2_with fail
  refine (as_miss b w.heap.size _ _ H.out.2.2.2.2.1 H.out.2.2.2.2.2).mono ?_
  rintro e w' ⟨rfl, hk⟩
  have HK := hide (H.out.1.trans hk)
  have hc2 := hk.cel H.out.2.1
  unfold errV at hc2
  clear hk hc
  go_wp2_with fail
  refine (is_same b _).mono ?_
  rintro e w' ⟨rfl, rfl⟩
  go_wp2
  go_ret
  exact ⟨rfl, HK.out⟩
/-- notary.errno. -/
theorem errno_c (W : World) (hN : NG W) (w : World) (hW : Below W.heap.size W w) (ev : Value) (n : Nat) (he : EV W w ev n) :
    Calls Tryz.prog 35 #[ev] w fun e w' => e = .returned (.int .i64 n) ∧ Kp (fun _ => False) w w' := by
  rcases he with ⟨rfl, h⟩ | ⟨rfl, fb, rfl, h⟩ | ⟨rfl, h⟩
  · exact errno_long W hN w hW ev h
  · exact errno_fault W hN w hW fb h
  · exact errno_obj W hN w hW ev h
end Go.Proofs.YtocligpfmfmihaaGreatDoor
namespace Go.Proofs.YtocligpfmfmihaaGreatDoor
open Go Go.RowKit Go.Extern.Stop Go.Stop Go.Extern

/-- What readValue comes to. -/
def RvR (W w : World) (l : Bs) (e : Ending) (w' : World) : Prop := Kp (fun _ => False) w w' ∧ ((∃ j v, valueF l = .ok j ∧ e = .returned (.tuple #[v, .nilIface]) ∧ Rep w' (fun b => w.heap.size ≤ b ∧ b < w'.heap.size) j v) ∨
    (∃ n ev, valueF l = .error n ∧ e = .returned (.tuple #[.nilIface, ev]) ∧ EV W w' ev n ∧ ∃ t u, ev = .iface t u))

theorem dlen (s : ByteArray) : s.data.toList.length = s.size := by rw [Array.length_toList]; rfl
set_option maxRecDepth 20000 in
theorem readValue_c (W : World) (hN : NG W) (s : ByteArray) (w : World) (hW : Below W.heap.size W w) :
    Calls Tryz.prog 34 #[.string s] w fun e w' => RvR W w s.data.toList e w' := by
  obtain ⟨a, c, t, h1, h2⟩ := hN.lon
  have hc := Below.cl hW h1
  have hsl := dlen s
  by_cases hs : 600 < s.size
  · have hd : decide ((600 : Int) < (s.size : Int)) = true := by simp; omega
    have HE : Hid (EV W w (errV a) 1) := Or.inl ⟨rfl, h1⟩
    have HV := hide (show valueF s.data.toList = .error 1 by unfold valueF; rw [if_pos (by omega)])
    unfold errV at hc HE
    clear h1 h2
    go_enter Tryz.func34, Tryz.ntmps34
    go_wp2
    go_quiet (fail)
    go_wp2
    go_ret2
    exact ⟨(Kp.refl _ _).drewN _, Or.inr ⟨1, _, HV.out, rfl, HE.out, _, _, rfl⟩⟩
  · have hd : decide ((600 : Int) < (s.size : Int)) = false := by simp; omega
    have hs' : s.size ≤ 600 := by omega
    clear h1 h2
    go_enter Tryz.func34, Tryz.ntmps34
    go_wp2_with fail
    refine (parse_c W hN.gl s hs' w hW).mono ?_
    rintro e w' ⟨hk, h⟩
    have HV := hide (show valueF s.data.toList = match parse s.data.toList with | none => .error 2 | some j => .ok j by unfold valueF; rw [if_neg (by omega)]; cases parse s.data.toList <;> rfl)
    have HK := hide hk
    clear hk
    rcases h with ⟨j, v, hp, rfl, hr⟩ | ⟨hp, fb, rfl, h3, h4⟩
    · obtain ⟨tt, u, rfl⟩ := Rep.iface hr
      have HR : Hid (RvR W w s.data.toList (.returned (.tuple #[.iface tt u, .nilIface])) w') := ⟨HK.out, Or.inl ⟨j, _, by rw [HV.out, hp], rfl, hr⟩⟩
      clear hp hr
      go_wp2
      go_ret2
      exact HR.out
    · have HR : Hid (RvR W w s.data.toList (.returned (.tuple #[.nilIface, .iface 116 (.pointer (some ⟨fb, 0, none⟩))])) w') := ⟨HK.out, Or.inr ⟨2, _, by rw [HV.out, hp], rfl, Or.inr (Or.inl ⟨rfl, fb, rfl, h4⟩), _, _, rfl⟩⟩
      clear hp h3 h4
      go_wp2
      go_ret2
      exact HR.out
/-- What a call that hands back a text and a number comes to. -/
def AnsR (w : World) (r : Bs × Nat) (e : Ending) (w' : World) : Prop := e = .returned (.tuple #[.string ⟨r.1.toArray⟩, .int .i64 r.2]) ∧ Kp (fun _ => False) w w'
theorem kp_wr {w w2 : World} (h : Wr w.heap.size w w2) : Kp (fun _ => False) w w2 := ⟨h.below.os, h.below.tape, h.below.output, h.below.size, fun k hk _ => h.below.block k hk⟩
set_option maxRecDepth 20000 in
theorem canon_c (W : World) (hN : NG W) (s : ByteArray) (w : World) (hW : Below W.heap.size W w) :
    Calls Tryz.prog 14 #[.string s] w fun e w' => AnsR w (canonF s.data.toList) e w' := by
  go_enter Tryz.func14, Tryz.ntmps14
  go_wp2_with fail
  refine (readValue_c W hN s w hW).mono ?_
  rintro e w' ⟨hk, ⟨j, v, hv, rfl, hr⟩ | ⟨n, ev, hv, rfl, he, tt, u, rfl⟩⟩
  · obtain ⟨tt, u, rfl⟩ := Rep.iface hr
    have hb := below_kp hW hk
    have hp : parse s.data.toList = some j ∧ s.data.toList.length ≤ 600 := by
      unfold valueF at hv
      split at hv
      · cases hv
      · split at hv
        · cases hv
        · injection hv with hv
          subst hv
          rename_i _ _ hx _ _
          exact ⟨by assumption, by omega⟩
    have hok := parse_ok hp.1
    have hcl := cnt_le j
    have hm : (cnt j + 1) * ((cJ j).length + 2) ≤ 601 * 602 := Nat.mul_le_mul (by omega) (by omega)
    have H := hide (And.intro hr (And.intro hok.1 (And.intro hk hv)))
    have hcl' : cnt j ≤ 1000000 := by omega
    clear hr hok hp hv hk
    go_wp2_with fail
    refine (vcanon_c W hN.gl 6 j H.out.2.1 hcl' (by omega) _ _ w' hb H.out.1).mono ?_
    rintro e w2 ⟨rfl, hw⟩
    have HK := hide (H.out.2.2.1.trans (kp_wr hw))
    clear hw
    go_wp2
    go_ret2
    refine ⟨?_, HK.out⟩
    unfold canonF
    rw [H.out.2.2.2]
    rfl
  · have hb := below_kp hW hk
    have H := hide (And.intro he (And.intro hk hv))
    clear he hk hv
    go_wp2_with fail
    refine (errno_c W hN w' hb _ n H.out.1).mono ?_
    rintro e w2 ⟨rfl, hw⟩
    have HK := hide (H.out.2.1.trans hw)
    clear hw
    go_wp2
    go_ret2
    refine ⟨?_, HK.out⟩
    unfold canonF
    rw [H.out.2.2]
    rfl
end Go.Proofs.YtocligpfmfmihaaGreatDoor
namespace Go.Proofs
open Go.Shelf
def Tryz.clone130_ren : Go.Shelf.Ren := ⟨fun | 5 => 130 | 7 => 172 | n => n, fun | 23 => 71 | 25 => 9 | 3 => 59 | 4 => 4 | 20 => 20 | n => n, fun | n => n⟩
theorem Tryz.clone130 : Go.Proofs.SlLaysW.n5 Tryz.prog Tryz.clone130_ren := {
  mixed := by kernel_rfl
  f5 := ⟨Tryz.f130.name, by decide, Tryz.func130.trans (congrArg some (by kernel_rfl))⟩
  f7 := Tryz.func172.trans (congrArg some (by kernel_rfl))
  t4 := Tryz.underlying4
  a4 := Tryz.isAgg4
  z4 := Tryz.sizeOf4
  v4 := Tryz.zeroValue4
  t20 := Tryz.underlying20
  a20 := Tryz.isAgg20
  z20 := Tryz.sizeOf20
  v20 := Tryz.zeroValue20
  t23 := Tryz.underlying71
  a23 := Tryz.isAgg71
  z23 := Tryz.sizeOf71
  v23 := Tryz.zeroValue71 }
def Tryz.copy132_ren : Go.Shelf.Ren := ⟨fun | 5 => 132 | n => n, fun | 23 => 71 | 24 => 71 | 26 => 9 | 27 => 59 | 0 => 0 | 4 => 4 | n => n, fun | n => n⟩
theorem Tryz.copy132 : Go.Proofs.SlLaysX.n5 Tryz.prog Tryz.copy132_ren := {
  mixed := by kernel_rfl
  f5 := ⟨Tryz.f132.name, by decide, Tryz.func132.trans (congrArg some (by kernel_rfl))⟩
  t0 := Tryz.underlying0
  a0 := Tryz.isAgg0
  z0 := Tryz.sizeOf0
  v0 := Tryz.zeroValue0
  t4 := Tryz.underlying4
  a4 := Tryz.isAgg4
  z4 := Tryz.sizeOf4
  v4 := Tryz.zeroValue4
  t23 := Tryz.underlying71
  a23 := Tryz.isAgg71
  z23 := Tryz.sizeOf71
  v23 := Tryz.zeroValue71
  t24 := Tryz.underlying71
  a24 := Tryz.isAgg71
  z24 := Tryz.sizeOf71
  v24 := Tryz.zeroValue71
  a26 := Tryz.isAgg9
  z26 := Tryz.sizeOf9
  a27 := Tryz.isAgg59
  z27 := Tryz.sizeOf59 }
end Go.Proofs
namespace Go.Proofs.YtocligpfmfmihaaGreatDoor
open Go Go.RowKit Go.Maps Go.WideMaps

theorem to0 (w : World) : (Instr.typeAssert (.iface 221 (.agg #[])) 59 71 true).run Tryz.prog w = .ok (.tuple #[.map none, .bool false]) w := by kernel_rfl
theorem to1 (b : Bool) (w : World) : (Instr.typeAssert (.iface 222 (.bool b)) 59 71 true).run Tryz.prog w = .ok (.tuple #[.map none, .bool false]) w := by kernel_rfl
theorem to2 (n : Int) (w : World) : (Instr.typeAssert (.iface 224 (.int .i64 n)) 59 71 true).run Tryz.prog w = .ok (.tuple #[.map none, .bool false]) w := by kernel_rfl
theorem to3 (s : ByteArray) (w : World) : (Instr.typeAssert (.iface 137 (.string s)) 59 71 true).run Tryz.prog w = .ok (.tuple #[.map none, .bool false]) w := by kernel_rfl
theorem to4 (sv : Value) (w : World) : (Instr.typeAssert (.iface 228 sv) 59 71 true).run Tryz.prog w = .ok (.tuple #[.map none, .bool false]) w := by kernel_rfl
/-- Is it an object? -/
def isO : J → Bool | .obj _ => true | _ => false
theorem rep_no {w : World} {F : Nat → Prop} {j : J} {tt : TypeId} {u : Value} (h : Rep w F j (.iface tt u)) (hj : isO j = false) : ∀ w, (Instr.typeAssert (.iface tt u) 59 71 true).run Tryz.prog w = .ok (.tuple #[.map none, .bool false]) w := by
  cases j with
  | null => rw [Rep] at h; cases h; exact to0
  | bool b => rw [Rep] at h; cases h; exact to1 b
  | num n => rw [Rep] at h; cases h; exact to2 n
  | str s => rw [Rep] at h; cases h; exact to3 _
  | arr l => rw [Rep] at h; obtain ⟨sv, vs, e, _⟩ := h; cases e; exact to4 _
  | obj l => cases hj

/-- An object of the program. -/
def Ob (w : World) (F : Nat → Prop) (l : List (Bs × J)) (v : Value) : Prop := Rep w F (.obj l) (.iface 71 v)
theorem Ob.shape {w : World} {F : Nat → Prop} {l : List (Bs × J)} {v : Value} (h : Ob w F l v) : ∃ b m, v = .map (some b) ∧ F b ∧ w.ownsMap Tryz.prog 9 Rv b m.length (dm m) ∧ Repm w F l m := by
  unfold Ob at h
  rw [Rep] at h
  obtain ⟨b, m, e, h1, h2, h3⟩ := h
  cases e
  exact ⟨b, m, rfl, h1, h2, h3⟩
def OoR (W w : World) (l : Bs) (e : Ending) (w' : World) : Prop := Kp (fun _ => False) w w' ∧ ((∃ o b, objectF l = .ok o ∧ e = .returned (.tuple #[.map (some b), .nilIface]) ∧ Ob w' (fun b => w.heap.size ≤ b ∧ b < w'.heap.size) o (.map (some b))) ∨
    (∃ n ev, objectF l = .error n ∧ e = .returned (.tuple #[.map none, ev]) ∧ EV W w' ev n ∧ ∃ t u, ev = .iface t u))
set_option maxRecDepth 20000 in
theorem readObject_c (W : World) (hN : NG W) (s : ByteArray) (w : World) (hW : Below W.heap.size W w) :
    Calls Tryz.prog 39 #[.string s] w fun e w' => OoR W w s.data.toList e w' := by
  obtain ⟨a, c, t, ho1, _⟩ := hN.obj
  go_enter Tryz.func39, Tryz.ntmps39
  go_wp2_with fail
  refine (readValue_c W hN s w hW).mono ?_
  rintro e w' ⟨hk, ⟨j, v, hv, rfl, hr⟩ | ⟨n, ev, hv, rfl, he, tt, u, rfl⟩⟩
  · have hb := below_kp hW hk
    obtain ⟨tt, u, rfl⟩ := Rep.iface hr
    cases hj : isO j with
    | false =>
      have hta := rep_no hr hj
      have hc := Below.cl hb ho1
      have HE : Hid (EV W w' (errV a) 3) := Or.inr (Or.inr ⟨rfl, ho1⟩)
      have HV := hide (show objectF s.data.toList = .error 3 by unfold objectF; rw [hv]; cases j <;> simp_all [isO])
      have HK := hide hk
      unfold errV at hc HE
      clear hk hv hr ho1 hj
      go_wp2
      go_quiet (fail)
      go_wp2
      go_ret2
      exact ⟨HK.out.drewN _, Or.inr ⟨3, _, HV.out, rfl, HE.out, _, _, rfl⟩⟩
    | true =>
      cases j with
      | obj l =>
        have HO := hide hr
        rw [Rep] at hr
        obtain ⟨b, m, e, _⟩ := hr
        cases e
        have hta := ta55 (some b)
        have HV := hide (show objectF s.data.toList = .ok l by unfold objectF; rw [hv])
        have HK := hide hk
        clear hk hv ho1 hj
        go_wp2
        go_ret2
        exact ⟨HK.out, Or.inl ⟨l, b, HV.out, rfl, HO.out⟩⟩
      | null => cases hj
      | bool _ => cases hj
      | num _ => cases hj
      | str _ => cases hj
      | arr _ => cases hj
  · have HV := hide (show objectF s.data.toList = .error n by unfold objectF; rw [hv])
    have HK := hide (And.intro hk he)
    clear hk hv he ho1
    go_wp2
    go_ret2
    exact ⟨HK.out.1, Or.inr ⟨n, _, HV.out, rfl, HK.out.2, _, _, rfl⟩⟩
end Go.Proofs.YtocligpfmfmihaaGreatDoor
namespace Go.Proofs.YtocligpfmfmihaaGreatDoor
open Go Go.RowKit Go.Maps Go.WideMaps

theorem Repm.del {w : World} {F : Nat → Prop} (k : Bs) : ∀ (l : List (Bs × J)) (m : List (Bs × Value)), Repm w F l m → Repm w F (delK k l) (delK k m)
  | [], m, h => by
    rw [Repm] at h
    subst h
    simp only [delK, List.filter_nil]
    rw [Repm]
  | (a, y) :: l, m, h => by
    rw [Repm] at h
    obtain ⟨u, r, rfl, h1, h2⟩ := h
    have ih := Repm.del k l r h2
    unfold delK at ih ⊢
    by_cases e : a = k
    · simpa [e] using ih
    · simp only [e, decide_false, Bool.not_false, List.filter_cons_of_pos]
      rw [Repm]
      exact ⟨u, _, rfl, h1, ih⟩
theorem Kp.of_below {w w' : World} (h : Below w.heap.size w w') : Kp (fun _ => False) w w' := ⟨h.os, h.tape, h.output, h.size, fun k hk _ => h.block k hk⟩
theorem Kp.of_grown {w w1 w' : World} {b : Nat} (h : Kp (fun _ => False) w w1) (hg : w1.grownBy w' (some b)) (hb : w.heap.size ≤ b) : Kp (fun _ => False) w w' := h.grown hg (fun k e hk => by cases e; omega)
theorem two_cells {w : World} {b : Nat} {u v : Value} {t : TypeId} (h : w.heap[b]? = some (.cells #[u, v] t)) : w.cell? ⟨b, 0, none⟩ = some u ∧ w.cell? ⟨b, 1, none⟩ = some v := by
  constructor <;> simp [World.cell?, h]
theorem keyS : keyOf Tryz.prog 9 (.string ⟨#[115, 105, 103, 110, 97, 116, 117, 114, 101, 115]⟩) = some (.string kSig) := key_mk2 (o := kSig) (by decide)
theorem keyU : keyOf Tryz.prog 9 (.string ⟨#[117, 110, 115, 105, 103, 110, 101, 100]⟩) = some (.string kUns) := key_mk2 (o := kUns) (by decide)

set_option maxRecDepth 20000 in
/-- Without, of the two keys. -/
theorem without_c (w : World) (F : Nat → Prop) (l : List (Bs × J)) (b kb : Nat) (ho : Ob w F l (.map (some b))) (hF : ∀ k, F k → k < w.heap.size) (hk : w.heap[kb]? = some (.cells #[.string ⟨#[115, 105, 103, 110, 97, 116, 117, 114, 101, 115]⟩, .string ⟨#[117, 110, 115, 105, 103, 110, 101, 100]⟩] 9)) :
    Calls Tryz.prog 73 #[.map (some b), .slice (some ⟨kb, 0, none⟩) 2 2] w fun e w' => e = .returned (.map (some w.heap.size)) ∧ Kp (fun _ => False) w w' ∧ Ob w' (fun k => F k ∨ k = w.heap.size) (bareL l) (.map (some w.heap.size)) := by
  obtain ⟨b', m, e, hFb, hown, hrep⟩ := ho.shape
  cases e
  have hkb := lt_heap hk
  go_enter Tryz.func73, Tryz.ntmps73
  go_wp2_with fail
  refine (AnyW.maps_Clone_owns Tryz.clone130 9 Rv b m.length (dm m) w hown).mono ?_
  rintro e w1 ⟨rfl, o1, _, hb1⟩
  obtain ⟨c0, c1⟩ := two_cells ((hb1.block kb hkb).trans hk)
  have K1 := hide (Kp.of_below hb1)
  clear hb1
  go_wp2_with fail
  refine wp_loop_rounds 3 ?_
  rw [rounds_succ]
  go_wp2_with (first | (at_delete; refine wpList_delete_own _ rfl _ _ 71 9 rfl 59 keyed Tryz.underlying71 Rv w.heap.size m.length _ rfl o1 _ _ rfl keyS ?_; intro w2 o2 t2; have g2 := t2.grown; have c1' : w2.cell? ⟨kb, 1, none⟩ = some (.string ⟨#[117, 110, 115, 105, 103, 110, 101, 100]⟩) := (World.cell?_of_block (w := w1) (a := ⟨kb, 1, none⟩) (g2.block kb (by have := K1.out.size; omega) (by intro e; injection e with e; omega))).trans c1; clear t2 c0 c1) | go_in)
  rw [dm_del] at o2
  have K2 := hide (K1.out.of_grown g2 (Nat.le_refl _))
  clear g2
  rw [rounds_succ]
  go_wp2_with (first | (at_delete; refine wpList_delete_own _ rfl _ _ 71 9 rfl 59 keyed Tryz.underlying71 Rv w.heap.size m.length _ rfl o2 _ _ rfl keyU ?_; intro w3 o3 t3; have g3 := t3.grown; clear t3) | go_in)
  rw [dm_del] at o3
  have K3 := hide (K2.out.of_grown g3 (Nat.le_refl _))
  have HO := hide (ownsMap_tight o3)
  clear g3
  rw [rounds_succ]
  go_wp2
  go_ret
  refine ⟨rfl, K3.out, ?_⟩
  unfold Ob
  rw [Rep]
  refine ⟨w.heap.size, delK kUns (delK kSig m), rfl, Or.inr rfl, HO.out, ?_⟩
  refine Repm.mono (fun k hk => Or.inl hk) _ (Repm.frame (w := w) (fun k hk => K3.out.block k (hF k hk) (by simp)) _ ?_)
  exact Repm.del _ _ _ (Repm.del _ _ _ hrep)

set_option maxRecDepth 20000 in
theorem messageOf_c (W : World) (hN : NG W) (w : World) (hW : Below W.heap.size W w) (F : Nat → Prop) (l : List (Bs × J)) (b : Nat) (ho : Ob w F l (.map (some b))) (hF : ∀ k, F k → k < w.heap.size) (hwf : WF 6 (.obj (bareL l))) (hc : cnt (.obj (bareL l)) ≤ 1000000) (hlen : (cnt (.obj (bareL l)) + 1) * ((bareF l).length + 2) ≤ 139000000000000) :
    Calls Tryz.prog 40 #[.map (some b)] w fun e w' => e = .returned (.string ⟨(bareF l).toArray⟩) ∧ Kp (fun _ => False) w w' := by
  obtain ⟨b', m, e, hFb, hown, hrep⟩ := ho.shape
  cases e
  have H := hide (And.intro hwf (And.intro hc (And.intro hlen hF)))
  have hW1 : Kp (fun _ => False) w (w.alloc (.cells #[.string ⟨#[115, 105, 103, 110, 97, 116, 117, 114, 101, 115]⟩, .string ⟨#[117, 110, 115, 105, 103, 110, 101, 100]⟩] 9)) := (Kp.refl _ w).alloc _
  have ho1 : Ob (w.alloc (.cells #[.string ⟨#[115, 105, 103, 110, 97, 116, 117, 114, 101, 115]⟩, .string ⟨#[117, 110, 115, 105, 103, 110, 101, 100]⟩] 9)) F l (.map (some b)) := Rep.frame (fun k hk => hW1.block k (hF k hk) (by simp)) _ ho
  have hnew := heap_alloc_new w (.cells #[.string ⟨#[115, 105, 103, 110, 97, 116, 117, 114, 101, 115]⟩, .string ⟨#[117, 110, 115, 105, 103, 110, 101, 100]⟩] 9)
  have H1 := hide (And.intro hW1 (And.intro ho1 hnew))
  clear hwf hc hlen hW1 ho1 hnew hF ho hown hrep
  go_enter Tryz.func40, Tryz.ntmps40
  go_wp2_with fail
  refine (without_c _ F l b w.heap.size H1.out.2.1 (fun k hk => by have := H.out.2.2.2 k hk; simp; omega) H1.out.2.2).mono ?_
  rintro e w2 ⟨rfl, k2, o2⟩
  simp only [World.size_alloc] at o2
  have hK := H1.out.1.trans k2
  have hb2 := below_kp hW hK
  have H2 := hide (And.intro hK o2)
  clear k2 o2 hK
  go_wp2_with fail
  refine (vcanon_c W hN.gl 6 (.obj (bareL l)) H.out.1 H.out.2.1 H.out.2.2.1 _ _ w2 hb2 H2.out.2).mono ?_
  rintro e w3 ⟨rfl, hw⟩
  have HK := hide (H2.out.1.trans (kp_wr hw))
  clear hw
  go_wp2
  go_ret
  exact ⟨rfl, HK.out⟩

theorem cntm_del (k : Bs) : ∀ (l : List (Bs × J)), cntm (delK k l) ≤ cntm l
  | [] => by simp [delK]
  | (a, y) :: l => by
    have ih := cntm_del k l
    unfold delK at ih ⊢
    by_cases e : a = k
    · simp only [e, decide_true, Bool.not_true, Bool.false_eq_true, not_false_iff, List.filter_cons_of_neg]
      rw [cntm]
      omega
    · simp only [e, decide_false, Bool.not_false, List.filter_cons_of_pos]
      rw [cntm, cntm]
      omega
end Go.Proofs.YtocligpfmfmihaaGreatDoor
namespace Go.Proofs.YtocligpfmfmihaaGreatDoor
open Go Go.RowKit Go.Maps Go.WideMaps

theorem merge_nil (m : List (Bs × Value)) (hm : Srt m) : Lib.mergeD (dm []) (dm m) = dm m := by
  have h : ∀ (l : List (Bs × Value)) (acc : List (Bs × Value)), Srt acc → (l.map dE).foldl (fun D p => D.put p.1 p.2) (dm acc) = dm (l.foldl (fun a p => insK p.1 p.2 a) acc) := by
    intro l
    induction l with
    | nil => intro acc _; rfl
    | cons p l ih =>
      intro acc ha
      simp only [List.map_cons, List.foldl_cons]
      have := dm_put p.1 p.2 acc ha
      rw [← ih (insK p.1 p.2 acc) (srt_insK p.1 p.2 acc ha), ← this]
      rfl
  have h1 := h m [] (by simp [Srt])
  have h2 := ofL_srt m hm
  unfold ofL at h2
  rw [h2] at h1
  exact h1

set_option maxRecDepth 20000 in
/-- Child. -/
theorem child_c (w : World) (F : Nat → Prop) (l : List (Bs × J)) (b : Nat) (k : Bs) (hk : k.length ≤ 139000000000000) (ho : Ob w F l (.map (some b))) :
    Calls Tryz.prog 75 #[.map (some b), .string ⟨k.toArray⟩] w fun e w' => ∃ b2, e = .returned (.map (some b2)) ∧ Kp (fun _ => False) w w' ∧ Ob w' (fun j => F j ∨ (w.heap.size ≤ j ∧ j < w'.heap.size)) (childF k l) (.map (some b2)) := by
  obtain ⟨b', m, e, hFb, hown, hrep⟩ := ho.shape
  cases e
  have hempty : ∀ G : Nat → Prop, G w.heap.size → Ob (w.alloc (.map #[] 0)) G [] (.map (some w.heap.size)) := by
    intro G hG
    unfold Ob
    rw [Rep]
    refine ⟨w.heap.size, [], rfl, hG, ?_, by rw [Repm]⟩
    simpa [dm] using World.ownsMap_made w Tryz.prog 9 Rv
  obtain ⟨lv, lps, hlk, hlr⟩ := hown.lookup keyed Tryz.underlying71 (zeroV w) (R := Rv) (zd := .held .nilIface) (zp := []) rfl (key_mk2 hk)
  have hmm := @run_makeMap Tryz.prog
  rw [dm_at] at hlr
  rcases Repm.look k l m hrep with ⟨e1, e2⟩ | ⟨v, x, e1, e2, hx⟩
  · rw [e1] at hlr
    simp only [Rv, Option.some.injEq, Prod.mk.injEq, DataW.held.injEq] at hlr
    obtain ⟨rfl, _⟩ := hlr
    have hta : ∀ w, (Instr.typeAssert .nilIface 59 71 true).run Tryz.prog w = .ok (.tuple #[.map none, .bool false]) w := fun w => by kernel_rfl
    have HC := hide (show childF k l = [] by unfold childF; rw [e2])
    clear e1 e2
    go_enter Tryz.func75, Tryz.ntmps75
    go_wp2
    go_ret
    refine ⟨_, rfl, (Kp.refl _ w).alloc _, ?_⟩
    rw [HC.out]
    exact hempty _ (Or.inr ⟨Nat.le_refl _, by simp⟩)
  · rw [e1] at hlr
    simp only [Rv, Option.some.injEq, Prod.mk.injEq, DataW.held.injEq] at hlr
    obtain ⟨rfl, _⟩ := hlr
    obtain ⟨tt, u, rfl⟩ := Rep.iface hx
    cases hj : isO x with
    | false =>
      have hta := rep_no hx hj
      have HC := hide (show childF k l = [] by unfold childF; rw [e2]; cases x <;> simp_all [isO])
      clear e1 e2 hx
      go_enter Tryz.func75, Tryz.ntmps75
      go_wp2
      go_ret
      refine ⟨_, rfl, (Kp.refl _ w).alloc _, ?_⟩
      rw [HC.out]
      exact hempty _ (Or.inr ⟨Nat.le_refl _, by simp⟩)
    | true =>
      cases x with
      | obj l' =>
        have HO := hide hx
        rw [Rep] at hx
        obtain ⟨b2, m2, e, _⟩ := hx
        cases e
        have hta := ta55 (some b2)
        have HC := hide (show childF k l = l' by unfold childF; rw [e2])
        clear e1 e2 hmm
        go_enter Tryz.func75, Tryz.ntmps75
        go_wp2
        go_ret
        refine ⟨_, rfl, Kp.refl _ w, ?_⟩
        rw [HC.out]
        exact Rep.mono (fun k hk => Or.inl hk) _ HO.out
      | null => cases hj
      | bool _ => cases hj
      | num _ => cases hj
      | str _ => cases hj
      | arr _ => cases hj

set_option maxRecDepth 20000 in
/-- With. -/
theorem with_c (w : World) (F G : Nat → Prop) (l : List (Bs × J)) (b : Nat) (k : Bs) (x : J) (xv : Value) (hk : k.length ≤ 139000000000000) (hs : Srt l) (hl : l.length ≤ 1000000) (ho : Ob w F l (.map (some b))) (hx : Rep w G x xv) (hF : ∀ k, F k → k < w.heap.size) (hG : ∀ k, G k → k < w.heap.size) :
    Calls Tryz.prog 76 #[.map (some b), .string ⟨k.toArray⟩, xv] w fun e w' => e = .returned (.map (some w.heap.size)) ∧ Kp (fun _ => False) w w' ∧ Ob w' (fun j => F j ∨ G j ∨ j = w.heap.size) (insK k x l) (.map (some w.heap.size)) := by
  obtain ⟨b', m, e, hFb, hown, hrep⟩ := ho.shape
  cases e
  obtain ⟨tt, u, rfl⟩ := Rep.iface hx
  have hml := Repm.len hrep
  have hsm : Srt m := srt_keys (Repm.keys l m hrep) hs
  have hbl := hown.lt
  have hmm : ∀ (n : Int) (w : World), (Instr.makeMap 71 (some (.int .i64 n))).run Tryz.prog w = .ok (.map (some w.heap.size)) (w.alloc (.map #[] 0)) := by
    intro n w
    simp [Instr.makeMap, run_underlying Tryz.underlying71, asInt, asIntOf, Result.andThen]
  have hwr : wrap64 ((m.length : Int) + 1) = (m.length : Int) + 1 := by unfold wrap64; omega
  go_enter Tryz.func76, Tryz.ntmps76
  go_wp2_with (first | (at_len; refine wpList_len_own _ rfl _ 71 rfl 9 59 Tryz.underlying71 Rv b m.length (dm m) rfl hown ?_; rw [dm_size]) | fail)
  have k1 : Kp (fun _ => False) w (w.alloc (.map #[] 0)) := (Kp.refl _ w).alloc _
  have o0 : (w.alloc (.map #[] 0)).ownsMap Tryz.prog 9 Rv w.heap.size 0 (dm []) := by simpa [dm] using World.ownsMap_made w Tryz.prog 9 Rv
  have o1 : (w.alloc (.map #[] 0)).ownsMap Tryz.prog 9 Rv b m.length (dm m) := ownsMap_heap hown (Below.heap_alloc _ _ _ hbl)
  have HR := hide (And.intro hrep (And.intro hx (And.intro hF (And.intro hG hs))))
  clear hmm hwr hown hrep hx hF hG ho
  refine (AnyX.maps_Copy Tryz.copy132 keyed Rv w.heap.size b 0 m.length (dm []) (dm m) _ o0 o1 (by omega) (by rw [dm_size]; unfold maxLen; omega)).mono ?_
  rintro e w2 ⟨rfl, o2, _, g2⟩
  rw [merge_nil m hsm, dm_size] at o2
  have K2 := hide (k1.of_grown g2 (Nat.le_refl _))
  clear g2 k1 o0 o1
  have hky := key_mk2 hk
  go_wp2_with (first | (at_mapUpdate; refine wpList_mapUpdate_own _ rfl _ _ _ 71 rfl 9 59 keyed Tryz.underlying71 Rv w.heap.size _ _ rfl o2 (by unfold maxLen; omega) _ _ _ rfl rfl hky (.held (.iface tt u)) [] rfl ?_; intro w3 o3 g3) | go_in)
  rw [dm_put k (.iface tt u) m hsm] at o3
  have K3 := hide (K2.out.of_grown g3 (Nat.le_refl _))
  have O3 := hide (ownsMap_tight o3)
  clear g3 o3
  go_ret
  refine ⟨rfl, K3.out, ?_⟩
  unfold Ob
  rw [Rep]
  refine ⟨w.heap.size, _, rfl, Or.inr (Or.inr rfl), O3.out, ?_⟩
  refine Repm.ins ?_ _ _ ?_
  · exact Rep.mono (fun j hj => Or.inr (Or.inl hj)) _ (Rep.frame (w := w) (fun j hj => K3.out.block j (HR.out.2.2.2.1 j hj) (by simp)) _ HR.out.2.1)
  · exact Repm.mono (fun j hj => Or.inl hj) _ (Repm.frame (w := w) (fun j hj => K3.out.block j (HR.out.2.2.1 j hj) (by simp)) _ HR.out.1)
end Go.Proofs.YtocligpfmfmihaaGreatDoor

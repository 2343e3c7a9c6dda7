import Derived.Test.YtocligpfmfmihaaGreatDoorErr3
import Derived.Test.YtocligpfmfmihaaGreatDoorCan
import Derived.Test.YtocligpfmfmihaaGreatDoorJsonG
namespace Go.Proofs.YtocligpfmfmihaaGreatDoor
open Go Go.RowKit Go.Extern.Stop Go.Stop Go.Extern

/-- What the variables of the program hold. -/
structure NG (W : World) : Prop where
  gl : GL W
  ety : W.cell? ⟨9, 0, none⟩ = some (.iface 289 ((Value.agg #[Value.pointer (some (Addr.mk 31 61 none))])))
  lon : ∃ a c t, W.cell? ⟨0, 0, none⟩ = some (errV a) ∧ W.heap[a.block]? = some (.cells c t)
  obj : ∃ a c t, W.cell? ⟨1, 0, none⟩ = some (errV a) ∧ W.heap[a.block]? = some (.cells c t)
  ne : ∀ a, W.cell? ⟨0, 0, none⟩ = some (errV a) → W.cell? ⟨1, 0, none⟩ ≠ some (errV a)

/-- The error ev has the number n. -/
def EV (W w : World) (ev : Value) (n : Nat) : Prop :=
  (n = 1 ∧ W.cell? ⟨0, 0, none⟩ = some ev) ∨ (n = 2 ∧ ∃ fb, ev = .iface 116 (.pointer (some ⟨fb, 0, none⟩)) ∧ FaultAt W w fb) ∨ (n = 3 ∧ W.cell? ⟨1, 0, none⟩ = some ev)

/-- The three variables of errno. -/
def w3 (w : World) : World := ((w.alloc (.cells #[.pointer none] 116)).alloc (.cells #[.pointer none] 117)).alloc (.cells #[.pointer none] 118)
theorem w3_kp (w : World) : Kp (fun _ => False) w (w3 w) := (((Kp.refl _ w).alloc _).alloc _).alloc _
theorem w3_tb (w : World) : (w3 w).heap[w.heap.size]? = some (.cells #[.pointer none] 116) := by
  unfold w3
  rw [Below.heap_alloc _ _ _ (by simp; omega)]
  exact (two_new w _ _).1
theorem Kp.heap {w w' : World} {k : Nat} {o : Obj} (h : Kp (fun _ => False) w w') (hk : w.heap[k]? = some o) : w'.heap[k]? = some o := (h.block k (lt_heap hk) (by simp)).trans hk
theorem Kp.cel {w w' : World} {a : Addr} {o : Value} (h : Kp (fun _ => False) w w') (hk : w.cell? a = some o) : w'.cell? a = some o := (h.cell (lt_cell hk) (by simp)).trans hk
theorem Below.hp {W w : World} {k : Nat} {o : Obj} (h : Below W.heap.size W w) (hk : W.heap[k]? = some o) : w.heap[k]? = some o := (h.block k (lt_heap hk)).trans hk
theorem Below.cl {W w : World} {a : Addr} {o : Value} (h : Below W.heap.size W w) (hk : W.cell? a = some o) : w.cell? a = some o := (h.cell (lt_cell hk)).trans hk

set_option maxRecDepth 20000 in
theorem errno_long (W : World) (hN : NG W) (w : World) (hW : Below W.heap.size W w) (ev : Value) (he : W.cell? ⟨0, 0, none⟩ = some ev) :
    Calls Tryz.prog 35 #[ev] w fun e w' => e = .returned (.int .i64 1) ∧ Kp (fun _ => False) w w' := by
  obtain ⟨a, c, t, h1, h2⟩ := hN.lon
  rw [he] at h1
  injection h1 with h1
  subst h1
  have hc := (w3_kp w).cel (Below.cl hW he)
  have HK := hide (w3_kp w)
  clear he
  unfold w3 at hc HK
  unfold errV at hc ⊢
  go_enter Tryz.func35, Tryz.ntmps35
  go_wp2_with fail
  refine (is_same a _).mono ?_
  rintro e w' ⟨rfl, rfl⟩
  go_wp2
  go_ret
  exact ⟨rfl, HK.out⟩
set_option maxRecDepth 20000 in
theorem errno_fault (W : World) (hN : NG W) (w : World) (hW : Below W.heap.size W w) (fb : Nat) (hf : FaultAt W w fb) :
    Calls Tryz.prog 35 #[.iface 116 (.pointer (some ⟨fb, 0, none⟩))] w fun e w' => e = .returned (.int .i64 2) ∧ Kp (fun _ => False) w w' := by
  obtain ⟨a, c, t, h1, h2⟩ := hN.lon
  obtain ⟨k, g, cb, f1, f2, f3, f4⟩ := hf
  obtain ⟨f5, c', t', f6⟩ := f4 0 (by simp)
  have hne : cb ≠ a := by rintro rfl; exact f5 h1
  have hc := (w3_kp w).cel (Below.cl hW h1)
  have H := hide (And.intro (w3_kp w) (And.intro ((w3_kp w).heap f1) (And.intro ((w3_kp w).heap (Below.hp hW f6)) (And.intro ((w3_kp w).heap (Below.hp hW h2)) (And.intro ((w3_kp w).cel (Below.cl hW hN.ety)) (w3_tb w))))))
  clear f1 f2 f4 f5 f6 h1 h2
  unfold w3 at hc H
  unfold errV at hc
  go_enter Tryz.func35, Tryz.ntmps35
  go_wp2_with fail
  refine (is_fault fb cb a _ _ _ _ _ _ H.out.2.1 hne H.out.2.2.1 H.out.2.2.2.1).mono ?_
  rintro e w' ⟨rfl, rfl⟩
  go_wp2_with fail
  refine (as_hit fb w.heap.size _ _ H.out.2.2.2.2.1 H.out.2.2.2.2.2).mono ?_
  rintro e w' ⟨rfl, hk⟩
  have HK := hide (H.out.1.and (S := fun _ => False) hk (by intro i hi e; omega))
  clear hk
  go_wp2
  go_ret
  exact ⟨rfl, HK.out⟩
set_option maxRecDepth 20000 in
theorem errno_obj (W : World) (hN : NG W) (w : World) (hW : Below W.heap.size W w) (ev : Value) (he : W.cell? ⟨1, 0, none⟩ = some ev) :
    Calls Tryz.prog 35 #[ev] w fun e w' => e = .returned (.int .i64 3) ∧ Kp (fun _ => False) w w' := by
  obtain ⟨a, c, t, h1, h2⟩ := hN.lon
  obtain ⟨b, c', t', h3, h4⟩ := hN.obj
  rw [he] at h3
  injection h3 with h3
  subst h3
  have hne : b ≠ a := by rintro rfl; exact hN.ne _ h1 he
  have hc := (w3_kp w).cel (Below.cl hW h1)
  have H := hide (And.intro (w3_kp w) (And.intro ((w3_kp w).cel (Below.cl hW he)) (And.intro ((w3_kp w).heap (Below.hp hW h4)) (And.intro ((w3_kp w).heap (Below.hp hW h2)) (And.intro ((w3_kp w).cel (Below.cl hW hN.ety)) (w3_tb w))))))
  clear h1 h2 h4 he
  unfold w3 at hc H
  unfold errV at hc ⊢
  go_enter Tryz.func35, Tryz.ntmps35
  go_wp2_with fail
  refine (is_other b a _ _ _ _ _ hne H.out.2.2.1 H.out.2.2.2.1).mono ?_
  rintro e w' ⟨rfl, rfl⟩
  go_wp2_with fail
  refine (as_miss b w.heap.size _ _ H.out.2.2.2.2.1 H.out.2.2.2.2.2).mono ?_
  rintro e w' ⟨rfl, hk⟩
  have HK := hide (H.out.1.trans hk)
  have hc2 := hk.cel H.out.2.1
  unfold errV at hc2
  clear hk hc
  go_wp2_with fail
  refine (is_same b _).mono ?_
  rintro e w' ⟨rfl, rfl⟩
  go_wp2
  go_ret
  exact ⟨rfl, HK.out⟩
/-- notary.errno. -/
theorem errno_c (W : World) (hN : NG W) (w : World) (hW : Below W.heap.size W w) (ev : Value) (n : Nat) (he : EV W w ev n) :
    Calls Tryz.prog 35 #[ev] w fun e w' => e = .returned (.int .i64 n) ∧ Kp (fun _ => False) w w' := by
  rcases he with ⟨rfl, h⟩ | ⟨rfl, fb, rfl, h⟩ | ⟨rfl, h⟩
  · exact errno_long W hN w hW ev h
  · exact errno_fault W hN w hW fb h
  · exact errno_obj W hN w hW ev h
end Go.Proofs.YtocligpfmfmihaaGreatDoor
namespace Go.Proofs.YtocligpfmfmihaaGreatDoor
open Go Go.RowKit Go.Extern.Stop Go.Stop Go.Extern

/-- What readValue comes to. -/
def RvR (W w : World) (l : Bs) (e : Ending) (w' : World) : Prop := Kp (fun _ => False) w w' ∧ ((∃ j v, valueF l = .ok j ∧ e = .returned (.tuple #[v, .nilIface]) ∧ Rep w' (fun b => w.heap.size ≤ b ∧ b < w'.heap.size) j v) ∨
    (∃ n ev, valueF l = .error n ∧ e = .returned (.tuple #[.nilIface, ev]) ∧ EV W w' ev n ∧ ∃ t u, ev = .iface t u))

theorem dlen (s : ByteArray) : s.data.toList.length = s.size := by rw [Array.length_toList]; rfl
set_option maxRecDepth 20000 in
theorem readValue_c (W : World) (hN : NG W) (s : ByteArray) (w : World) (hW : Below W.heap.size W w) :
    Calls Tryz.prog 34 #[.string s] w fun e w' => RvR W w s.data.toList e w' := by
  obtain ⟨a, c, t, h1, h2⟩ := hN.lon
  have hc := Below.cl hW h1
  have hsl := dlen s
  by_cases hs : 600 < s.size
  · have hd : decide ((600 : Int) < (s.size : Int)) = true := by simp; omega
    have HE : Hid (EV W w (errV a) 1) := Or.inl ⟨rfl, h1⟩
    have HV := hide (show valueF s.data.toList = .error 1 by unfold valueF; rw [if_pos (by omega)])
    unfold errV at hc HE
    clear h1 h2
    go_enter Tryz.func34, Tryz.ntmps34
    go_wp2
    go_quiet (fail)
    go_wp2
    go_ret2
    exact ⟨(Kp.refl _ _).drewN _, Or.inr ⟨1, _, HV.out, rfl, HE.out, _, _, rfl⟩⟩
  · have hd : decide ((600 : Int) < (s.size : Int)) = false := by simp; omega
    have hs' : s.size ≤ 600 := by omega
    clear h1 h2
    go_enter Tryz.func34, Tryz.ntmps34
    go_wp2_with fail
    refine (parse_c W hN.gl s hs' w hW).mono ?_
    rintro e w' ⟨hk, h⟩
    have HV := hide (show valueF s.data.toList = match parse s.data.toList with | none => .error 2 | some j => .ok j by unfold valueF; rw [if_neg (by omega)]; cases parse s.data.toList <;> rfl)
    have HK := hide hk
    clear hk
    rcases h with ⟨j, v, hp, rfl, hr⟩ | ⟨hp, fb, rfl, h3, h4⟩
    · obtain ⟨tt, u, rfl⟩ := Rep.iface hr
      have HR : Hid (RvR W w s.data.toList (.returned (.tuple #[.iface tt u, .nilIface])) w') := ⟨HK.out, Or.inl ⟨j, _, by rw [HV.out, hp], rfl, hr⟩⟩
      clear hp hr
      go_wp2
      go_ret2
      exact HR.out
    · have HR : Hid (RvR W w s.data.toList (.returned (.tuple #[.nilIface, .iface 116 (.pointer (some ⟨fb, 0, none⟩))])) w') := ⟨HK.out, Or.inr ⟨2, _, by rw [HV.out, hp], rfl, Or.inr (Or.inl ⟨rfl, fb, rfl, h4⟩), _, _, rfl⟩⟩
      clear hp h3 h4
      go_wp2
      go_ret2
      exact HR.out
/-- What a call that hands back a text and a number comes to. -/
def AnsR (w : World) (r : Bs × Nat) (e : Ending) (w' : World) : Prop := e = .returned (.tuple #[.string ⟨r.1.toArray⟩, .int .i64 r.2]) ∧ Kp (fun _ => False) w w'
theorem kp_wr {w w2 : World} (h : Wr w.heap.size w w2) : Kp (fun _ => False) w w2 := ⟨h.below.os, h.below.tape, h.below.output, h.below.size, fun k hk _ => h.below.block k hk⟩
set_option maxRecDepth 20000 in
theorem canon_c (W : World) (hN : NG W) (s : ByteArray) (w : World) (hW : Below W.heap.size W w) :
    Calls Tryz.prog 14 #[.string s] w fun e w' => AnsR w (canonF s.data.toList) e w' := by
  go_enter Tryz.func14, Tryz.ntmps14
  go_wp2_with fail
  refine (readValue_c W hN s w hW).mono ?_
  rintro e w' ⟨hk, ⟨j, v, hv, rfl, hr⟩ | ⟨n, ev, hv, rfl, he, tt, u, rfl⟩⟩
  · obtain ⟨tt, u, rfl⟩ := Rep.iface hr
    have hb := below_kp hW hk
    have hp : parse s.data.toList = some j ∧ s.data.toList.length ≤ 600 := by
      unfold valueF at hv
      split at hv
      · cases hv
      · split at hv
        · cases hv
        · injection hv with hv
          subst hv
          rename_i _ _ hx _ _
          exact ⟨by assumption, by omega⟩
    have hok := parse_ok hp.1
    have hcl := cnt_le j
    have hm : (cnt j + 1) * ((cJ j).length + 2) ≤ 601 * 602 := Nat.mul_le_mul (by omega) (by omega)
    have H := hide (And.intro hr (And.intro hok.1 (And.intro hk hv)))
    have hcl' : cnt j ≤ 1000000 := by omega
    clear hr hok hp hv hk
    go_wp2_with fail
    refine (vcanon_c W hN.gl 6 j H.out.2.1 hcl' (by omega) _ _ w' hb H.out.1).mono ?_
    rintro e w2 ⟨rfl, hw⟩
    have HK := hide (H.out.2.2.1.trans (kp_wr hw))
    clear hw
    go_wp2
    go_ret2
    refine ⟨?_, HK.out⟩
    unfold canonF
    rw [H.out.2.2.2]
    rfl
  · have hb := below_kp hW hk
    have H := hide (And.intro he (And.intro hk hv))
    clear he hk hv
    go_wp2_with fail
    refine (errno_c W hN w' hb _ n H.out.1).mono ?_
    rintro e w2 ⟨rfl, hw⟩
    have HK := hide (H.out.2.1.trans hw)
    clear hw
    go_wp2
    go_ret2
    refine ⟨?_, HK.out⟩
    unfold canonF
    rw [H.out.2.2]
    rfl
end Go.Proofs.YtocligpfmfmihaaGreatDoor
namespace Go.Proofs.YtocligpfmfmihaaGreatDoor
open Go Go.RowKit

theorem canon_cases (s : Bs) : (∃ j, parse s = some j ∧ s.length ≤ 600 ∧ canonF s = (cJ j, 0)) ∨ canonF s = ([], 1) ∨ canonF s = ([], 2) := by
  unfold canonF valueF
  by_cases h : 600 < s.length
  · right; left
    rw [if_pos h]
    rfl
  · rw [if_neg h]
    cases hp : parse s with
    | none => right; right; rfl
    | some j => left; exact ⟨j, rfl, by omega, rfl⟩
theorem canon_ok {s : Bs} {j : J} (h : parse s = some j) (hl : s.length ≤ 600) : canonF s = (cJ j, 0) := by
  unfold canonF valueF
  rw [if_neg (by omega), h]
  rfl
theorem canon_bad {s : Bs} (h : parse s = none) (hl : s.length ≤ 600) : canonF s = ([], 2) := by
  unfold canonF valueF
  rw [if_neg (by omega), h]
  rfl
theorem c12 : cJ (.num 1) = [49] ∧ cJ (.num 2) = [50] := by
  constructor <;> (rw [cJ, cNum, if_neg (by decide), decN, if_pos (by decide)]; rfl)
theorem canon_known : canonF [123, 34, 98, 34, 58, 49, 44, 34, 97, 34, 58, 50, 125] = ([123, 34, 97, 34, 58, 50, 44, 34, 98, 34, 58, 49, 125], 0) := by
  rw [canon_ok known_two (by decide)]
  simp [cJ_obj, cMem, joinC, c12, cStr, cB]
theorem canon_kK (x y : J) : cJ (.obj [([75], y), ([107], x)]) = 123 :: 34 :: 75 :: 34 :: 58 :: (cJ y ++ 44 :: 34 :: 107 :: 34 :: 58 :: (cJ x ++ [125])) := by
  simp [cJ_obj, cMem, joinC, cStr, cB]

/-- What is asked of the two answers where one is an error. -/
theorem ans_empty (s : Bs) : (canonF s).1 = [] ↔ (canonF s).2 ≠ 0 := by
  rcases canon_cases s with ⟨j, _, _, h⟩ | h | h <;> rw [h]
  · simp [cJ_ne j]
  · simp
  · simp
theorem str_inj (a b : List UInt8) : ((⟨a.toArray⟩ : ByteArray) = ⟨b.toArray⟩) ↔ a = b := by
  constructor
  · intro h
    injection h with h
    simpa using h
  · rintro rfl; rfl

set_option maxRecDepth 20000 in
set_option maxHeartbeats 1000000 in
theorem ordered_bad (W : World) (hN : NG W) (a b : ByteArray) (ha : (canonF a.data.toList).2 ≠ 0) :
    Calls Tryz.prog 12 #[.string a, .string b] W fun e w' => e = .returned (.bool true) ∧ Kp (fun _ => False) W w' := by
  have ea := (ans_empty a.data.toList).2 ha
  have eb := ans_empty b.data.toList
  have hk := canon_known
  go_enter Tryz.func12, Tryz.ntmps12
  go_wp2_with fail
  refine (canon_c W hN ⟨#[123, 34, 98, 34, 58, 49, 44, 34, 97, 34, 58, 50, 125]⟩ W (Below.refl _ _)).mono ?_
  rintro e w1 ⟨rfl, k1⟩
  have b1 := below_kp (Below.refl _ W) k1
  simp only [hk]
  clear hk
  go_wp2_with fail
  refine (canon_c W hN a w1 b1).mono ?_
  rintro e w2 ⟨rfl, k2⟩
  have b2 := below_kp b1 k2
  rw [ea]
  generalize (canonF a.data.toList).2 = na at *
  go_wp2_with fail
  refine (canon_c W hN b w2 b2).mono ?_
  rintro e w3 ⟨rfl, k3⟩
  have HK := hide (k1.trans (k2.trans k3))
  clear k1 k2 k3 b1 b2
  generalize (canonF b.data.toList).1 = cb at *
  generalize (canonF b.data.toList).2 = nb at *
  go_wp2_with fail
  go_ret
  refine ⟨?_, HK.out⟩
  have hb : ((nb : Int) != 0) = cb.isEmpty := by
    cases cb with
    | nil =>
      have := eb.1 rfl
      simp [bne_iff_ne]
      omega
    | cons x l =>
      have : ¬ nb ≠ 0 := fun h => by cases eb.2 h
      simp
      omega
  have hn : ((na : Int) != 0) = true := by simp [bne_iff_ne]; omega
  rw [hn, hb]
  simp
set_option maxRecDepth 20000 in
set_option maxHeartbeats 1000000 in
theorem ordered_bad2 (W : World) (hN : NG W) (a b : ByteArray) (ja : J) (ha : canonF a.data.toList = (cJ ja, 0)) (hb : (canonF b.data.toList).2 ≠ 0 ∨ ∃ jb, canonF b.data.toList = (cJ jb, 0) ∧ 500 < a.size + b.size ∧ b.size ≤ 600) (hab : a.size ≤ 600) :
    Calls Tryz.prog 12 #[.string a, .string b] W fun e w' => e = .returned (.bool true) ∧ Kp (fun _ => False) W w' := by
  have ea : (cJ ja).isEmpty = false := by have := cJ_ne ja; cases h : cJ ja <;> simp_all
  have hk := canon_known
  go_enter Tryz.func12, Tryz.ntmps12
  go_wp2_with fail
  refine (canon_c W hN ⟨#[123, 34, 98, 34, 58, 49, 44, 34, 97, 34, 58, 50, 125]⟩ W (Below.refl _ _)).mono ?_
  rintro e w1 ⟨rfl, k1⟩
  have b1 := below_kp (Below.refl _ W) k1
  simp only [hk]
  clear hk
  go_wp2_with fail
  refine (canon_c W hN a w1 b1).mono ?_
  rintro e w2 ⟨rfl, k2⟩
  have b2 := below_kp b1 k2
  rw [ha]
  clear ha
  generalize cJ ja = ca at *
  go_wp2_with fail
  refine (canon_c W hN b w2 b2).mono ?_
  rintro e w3 ⟨rfl, k3⟩
  have HK := hide (k1.trans (k2.trans k3))
  clear k1 k2 k3 b1 b2
  rcases hb with hb | ⟨jb, hb, hl, hl2⟩
  · have eb := (ans_empty b.data.toList).2 hb
    rw [eb]
    generalize (canonF b.data.toList).2 = nb at *
    go_wp2_with fail
    go_ret
    refine ⟨?_, HK.out⟩
    have hn : ((nb : Int) != 0) = true := by simp [bne_iff_ne]; omega
    rw [hn]
    rfl
  · have eb : (cJ jb).isEmpty = false := by have := cJ_ne jb; cases h : cJ jb <;> simp_all
    rw [hb]
    clear hb
    generalize cJ jb = cb at *
    have hw : wrap64 ((a.size : Int) + (b.size : Int)) = (a.size : Int) + (b.size : Int) := by
      unfold wrap64
      omega
    have hd : decide ((500 : Int) < (a.size : Int) + (b.size : Int)) = true := by simp; omega
    go_wp2_with fail
    go_ret
    exact ⟨rfl, HK.out⟩

def bA (s : Bs) : ByteArray := ⟨s.toArray⟩
set_option maxRecDepth 20000 in
set_option maxHeartbeats 1000000 in
theorem ordered_good (W : World) (hN : NG W) (a b : ByteArray) (ja jb : J) (ha : parse a.data.toList = some ja) (hb : parse b.data.toList = some jb) (hl : a.size + b.size ≤ 500) :
    Calls Tryz.prog 12 #[.string a, .string b] W fun e w' => e = .returned (.bool true) ∧ Kp (fun _ => False) W w' := by
  have hla := dlen a
  have hlb := dlen b
  have ca := canon_ok ha (by omega)
  have cb := canon_ok hb (by omega)
  have hp := ordered_pure a.data.toList b.data.toList ja jb ha hb
  have la := (parse_ok ha).2
  have lb := (parse_ok hb).2
  have hk := canon_known
  have hw : wrap64 ((a.size : Int) + (b.size : Int)) = (a.size : Int) + (b.size : Int) := by
    unfold wrap64
    omega
  have hd : decide ((500 : Int) < (a.size : Int) + (b.size : Int)) = false := by simp; omega
  have l1 : (two1 a.data.toList b.data.toList).length ≤ 600 := by simp [two1]; simp at hla hlb; omega
  have l2 : (two2 (cJ ja) (cJ jb)).length ≤ 600 := by simp [two2]; simp at la lb hla hlb; omega
  have hq : ∃ r n, canonF (two1 a.data.toList b.data.toList) = (r, n) ∧ canonF (two2 (cJ ja) (cJ jb)) = (r, n) ∧ ((n = 0 ∧ r = 123 :: 34 :: 75 :: 34 :: 58 :: (cJ jb ++ 44 :: 34 :: 107 :: 34 :: 58 :: (cJ ja ++ [125]))) ∨ n = 2) := by
    rcases hp with ⟨p1, p2⟩ | ⟨p1, p2⟩
    · exact ⟨_, _, canon_ok p1 l1, canon_ok p2 l2, Or.inl ⟨rfl, canon_kK ja jb⟩⟩
    · exact ⟨_, _, canon_bad p1 l1, canon_bad p2 l2, Or.inr rfl⟩
  obtain ⟨r, n, hc1, hc2, hrn⟩ := hq
  have la' : (cJ ja).length ≤ 500 := by omega
  have lb' : (cJ jb).length ≤ 500 := by omega
  have sa' : ByteArray.size { data := (cJ ja).toArray } ≤ 500 := by show (cJ ja).toArray.size ≤ 500; simpa using la'
  have sb' : ByteArray.size { data := (cJ jb).toArray } ≤ 500 := by show (cJ jb).toArray.size ≤ 500; simpa using lb'
  clear hp l1 l2 la lb hla hlb
  have ba1 : (({ data := #[123, 34, 107, 34, 58] } ++ a ++ { data := #[44, 34, 75, 34, 58] } ++ b ++ { data := #[125] } : ByteArray)).data.toList = two1 a.data.toList b.data.toList := by simp [two1]
  have ba2 : (({ data := #[123, 34, 75, 34, 58] } ++ { data := (cJ jb).toArray } ++ { data := #[32, 44, 32, 34, 92, 117, 48, 48, 54, 98, 34, 58] } ++ { data := (cJ ja).toArray } ++ { data := #[125] } : ByteArray)).data.toList = two2 (cJ ja) (cJ jb) := by simp [two2]
  have ba3 : (({ data := #[123, 34, 75, 34, 58] } ++ { data := (cJ jb).toArray } ++ { data := #[44, 34, 107, 34, 58] } ++ { data := (cJ ja).toArray } ++ { data := #[125] } : ByteArray)).data.toList = 123 :: 34 :: 75 :: 34 :: 58 :: (cJ jb ++ 44 :: 34 :: 107 :: 34 :: 58 :: (cJ ja ++ [125])) := by simp
  clear ha hb
  go_enter Tryz.func12, Tryz.ntmps12
  go_wp2_with fail
  refine (canon_c W hN ⟨#[123, 34, 98, 34, 58, 49, 44, 34, 97, 34, 58, 50, 125]⟩ W (Below.refl _ _)).mono ?_
  rintro e w1 ⟨rfl, k1⟩
  have b1 := below_kp (Below.refl _ W) k1
  simp only [hk]
  clear hk
  go_wp2_with fail
  refine (canon_c W hN a w1 b1).mono ?_
  rintro e w2 ⟨rfl, k2⟩
  have b2 := below_kp b1 k2
  rw [ca]
  clear ca
  go_wp2_with fail
  refine (canon_c W hN b w2 b2).mono ?_
  rintro e w3 ⟨rfl, k3⟩
  have b3 := below_kp b2 k3
  rw [cb]
  clear cb
  have HK := hide (k1.trans (k2.trans k3))
  clear k1 k2 k3 b1 b2
  go_wp2_with fail
  refine (canon_c W hN _ w3 b3).mono ?_
  rintro e w4 ⟨rfl, k4⟩
  have b4 := below_kp b3 k4
  rw [ba1, hc1]
  go_wp2_with fail
  refine (canon_c W hN _ w4 b4).mono ?_
  rintro e w5 ⟨rfl, k5⟩
  rw [ba2, hc2]
  have HK2 := hide (HK.out.trans (k4.trans k5))
  clear k4 k5 b3 b4 hc1 hc2
  rcases hrn with ⟨rfl, hrr⟩ | rfl
  · have hrr' := hide hrr
    clear hrr
    go_wp2_with fail
    go_ret
    refine ⟨?_, HK2.out⟩
    rw [ByteArray.toList_eq, ba3, ← hrr'.out]
    simp
  · go_wp2_with fail
    go_ret
    exact ⟨rfl, HK2.out⟩

/-- notarykeep.Ordered. -/
theorem ordered_c (W : World) (hN : NG W) (a b : ByteArray) :
    Calls Tryz.prog 12 #[.string a, .string b] W fun e w' => e = .returned (.bool true) ∧ Kp (fun _ => False) W w' := by
  have hla := dlen a
  have hlb := dlen b
  by_cases ha : (canonF a.data.toList).2 = 0
  · rcases canon_cases a.data.toList with ⟨ja, pa, la, ca⟩ | h | h
    · by_cases hb : (canonF b.data.toList).2 = 0
      · rcases canon_cases b.data.toList with ⟨jb, pb, lb, cb⟩ | h | h
        · by_cases hl : a.size + b.size ≤ 500
          · exact ordered_good W hN a b ja jb pa pb hl
          · exact ordered_bad2 W hN a b ja ca (Or.inr ⟨jb, cb, by omega, by omega⟩) (by omega)
        · rw [h] at hb; cases hb
        · rw [h] at hb; cases hb
      · exact ordered_bad2 W hN a b ja ca (Or.inl hb) (by omega)
    · rw [h] at ha; cases ha
    · rw [h] at ha; cases ha
  · exact ordered_bad W hN a b ha
end Go.Proofs.YtocligpfmfmihaaGreatDoor

import Derived.Test.YtocligpfmfmihaaGreatDoorRef25G
import Derived.Test.YtocligpfmfmihaaGreatDoorRef24G
import Derived.Test.YtocligpfmfmihaaGreatDoorSgn2G
namespace Go.Proofs.YtocligpfmfmihaaGreatDoor
open Go Go.RowKit Go.Maps

/-- What stands at a pointer, as an object's members: none where it is none. -/
def PoL (w : World) (po : Option Addr) (l : List (Bs × J)) : Prop :=
  (l = [] ∧ (po = none ∨ ∃ b kind n t K L, po = some ⟨b, 0, none⟩ ∧ w.heap[b]? = some (vCells kind n t K L) ∧ kind ≠ 123)) ∨
  ((cJ (.obj l)).length ≤ 600 ∧ ∃ b, po = some ⟨b, 0, none⟩ ∧ RR w (fun c => c < w.heap.size) (.obj l) b)
theorem PoL.kp {w w' : World} {po : Option Addr} {l : List (Bs × J)} (h : PoL w po l) (hk : Kp (fun _ => False) w w') : PoL w' po l := by
  rcases h with ⟨h1, h2⟩ | ⟨h0, b, h1, h2⟩
  · refine Or.inl ⟨h1, ?_⟩
    rcases h2 with h2 | ⟨b, kind, n, t, K, L, e, hb, hk'⟩
    · exact Or.inl h2
    · exact Or.inr ⟨b, kind, n, t, K, L, e, vkp hb hk, hk'⟩
  · exact Or.inr ⟨h0, b, h1, h2.frame (fun k hk2 => hk.block k hk2 (by simp)) (fun k hk2 => Nat.lt_of_lt_of_le hk2 hk.size)⟩
/-- The parts of an object at a block. -/
theorem RR.parts {w : World} {F : Nat → Prop} {l : List (Bs × J)} {b : Nat} (h : RR w F (.obj l) b) : ∃ (x : List (Bs × J × Nat)) (K L : Value), w.heap[b]? = some (vCells 123 0 [] K L) ∧ w.ownsRow 0 9 1 K x.length (x.map fun p => .string ⟨p.1.toArray⟩) ∧ w.ownsRow 0 66 1 L x.length (x.map fun p => ptr p.2.2) ∧
    Nod (x.map fun p : Bs × J × Nat => (p.1, p.2.1)) ∧ (∀ a j c, (a, j, c) ∈ x → RR w F j c) ∧ l = ofL (x.map fun p => (p.1, p.2.1)) := by
  generalize hJ : J.obj l = j at h
  cases h with
  | obj x K L hFb h hK hL hG hH hN hx =>
    injection hJ with hJ
    exact ⟨x, K, L, h, hK, hL, hN, hx, hJ⟩
  | _ => cases hJ
theorem obj_cnt {x : List (Bs × J × Nat)} (hN : Nod (x.map fun p => (p.1, p.2.1))) {n : Nat} (h : (cJ (.obj (ofL (x.map fun p => (p.1, p.2.1))))).length ≤ n) : x.length ≤ n := by
  have hcnt := joinC_cnt ((ofL (x.map fun p => (p.1, p.2.1))).map cMem)
  have hol := ofL_len _ hN
  rw [cJ_obj] at h
  simp only [List.length_cons, List.length_append, List.length_nil, List.length_map] at h hcnt hol
  omega
theorem child_len {k : Bs} {l : List (Bs × J)} {j : J} (h : lookK k l = some j) : (cJ j).length ≤ (cJ (.obj l)).length := by
  have hm := lookK_mem h
  have := (joinC_le (l.map cMem) 0).2 (cMem (k, j)) (List.mem_map.2 ⟨_, hm, rfl⟩)
  rw [cJ_obj]
  simp only [cMem, List.length_append, List.length_cons, List.length_nil] at this ⊢
  omega
theorem getAny (w : World) (po : Option Addr) (l : List (Bs × J)) (h : PoL w po l) (key : Bs) :
    Calls Tryz.prog 45 #[.pointer po, .string ⟨key.toArray⟩] w fun e w' => ∃ po', e = .returned (.pointer po') ∧ w' = w ∧ PoL w po' (childF key l) := by
  rcases h with ⟨rfl, h2⟩ | ⟨h0, b, rfl, h2⟩
  · refine (get_no w key po h2).mono ?_
    rintro e w1 ⟨rfl, rfl⟩
    exact ⟨none, rfl, rfl, Or.inl ⟨rfl, Or.inl rfl⟩⟩
  · obtain ⟨x, K, L, hb, hK, hL, hN, hx, rfl⟩ := h2.parts
    have hxl := obj_cnt hN h0
    refine (get_c (m := x.map fun p => (p.1, p.2.2)) hb (by simpa [List.map_map, Function.comp_def] using hK) (by simpa [List.map_map, Function.comp_def] using hL) (by simp; omega) key).mono ?_
    rintro e w1 ⟨rfl, rfl⟩
    refine ⟨_, rfl, rfl, ?_⟩
    have hlo := lookK_ofL key _ hN
    rcases look_both key x with ⟨h1, h3⟩ | ⟨j, c, hm, h1, h3⟩
    · rw [h1]
      refine Or.inl ⟨?_, Or.inl rfl⟩
      rw [childF, hlo, h3]
    · rw [h1]
      have hr := hx key j c hm
      have hcl := child_len (hlo.trans h3)
      obtain ⟨n, t, K2, L2, hb2⟩ := hr.kind
      by_cases hk : ∃ l2, j = .obj l2
      · obtain ⟨l2, rfl⟩ := hk
        refine Or.inr ⟨?_, c, rfl, ?_⟩
        · rw [childF, hlo, h3]
          simp only
          omega
        · rw [childF, hlo, h3]
          exact hr
      · refine Or.inl ⟨?_, Or.inr ⟨c, rkind j, n, t, K2, L2, rfl, hb2, ?_⟩⟩
        · rw [childF, hlo, h3]
          cases j with
          | obj l2 => exact absurd ⟨l2, rfl⟩ hk
          | _ => rfl
        · cases j with
          | obj l2 => exact absurd ⟨l2, rfl⟩ hk
          | bool b => cases b <;> simp [rkind]
          | _ => simp [rkind]
theorem keepK_eq (key : Bs) : keepK key = fun p : Bs × Nat => !decide (p.1 = key) := rfl
theorem putAny (w : World) (po : Option Addr) (l : List (Bs × J)) (h : PoL w po l) (key : Bs) (xb : Nat) (jx : J) (hx : RR w (fun c => c < w.heap.size) jx xb) :
    Calls Tryz.prog 46 #[.pointer po, .string ⟨key.toArray⟩, .pointer (some ⟨xb, 0, none⟩)] w fun e w' =>
      e = .returned (.pointer (some ⟨w.heap.size, 0, none⟩)) ∧ Kp (fun _ => False) w w' ∧ RR w' (fun c => c < w'.heap.size) (.obj (insK key jx l)) w.heap.size := by
  rcases h with ⟨rfl, h2⟩ | ⟨h0, b, rfl, h2⟩
  · refine (rput_no w xb key po h2).mono ?_
    rintro e w1 ⟨rfl, K1, K, L, A⟩
    refine ⟨rfl, K1, ?_⟩
    have hfr : ∀ k, k < w.heap.size → w1.heap[k]? = w.heap[k]? ∧ k < w1.heap.size := fun k hk => ⟨K1.block k hk (by simp), Nat.lt_of_lt_of_le hk K1.size⟩
    exact put_tree (x := []) (F := fun _ => False) List.nodup_nil A (fun _ _ _ hm => by cases hm) hx (fun _ h => h.elim) hfr
  · obtain ⟨x, K, L, hb, hK, hL, hN, hxx, rfl⟩ := h2.parts
    have hxl := obj_cnt hN h0
    refine (rput_c w b xb key (x.map fun p => (p.1, p.2.2)) K L hb (by simpa [List.map_map, Function.comp_def] using hK) (by simpa [List.map_map, Function.comp_def] using hL) (by simp; omega)).mono ?_
    rintro e w1 ⟨rfl, K1, K', L', A⟩
    refine ⟨rfl, K1, ?_⟩
    have hfr : ∀ k, k < w.heap.size → w1.heap[k]? = w.heap[k]? ∧ k < w1.heap.size := fun k hk => ⟨K1.block k hk (by simp), Nat.lt_of_lt_of_le hk K1.size⟩
    exact put_tree hN A hxx hx hfr hfr
end Go.Proofs.YtocligpfmfmihaaGreatDoor
namespace Go.Proofs.YtocligpfmfmihaaGreatDoor
open Go Go.RowKit Go.Maps

/-- What stands at a pointer. -/
def PoJ (w : World) (po : Option Addr) (o : Option J) : Prop :=
  (po = none ∧ o = none) ∨ ∃ b j, po = some ⟨b, 0, none⟩ ∧ o = some j ∧ (cJ j).length ≤ 600 ∧ RR w (fun c => c < w.heap.size) j b
theorem PoJ.kp {w w' : World} {po : Option Addr} {o : Option J} (h : PoJ w po o) (hk : Kp (fun _ => False) w w') : PoJ w' po o := by
  rcases h with h | ⟨b, j, h1, h2, h0, h3⟩
  · exact Or.inl h
  · exact Or.inr ⟨b, j, h1, h2, h0, h3.frame (fun k hk2 => hk.block k hk2 (by simp)) (fun k hk2 => Nat.lt_of_lt_of_le hk2 hk.size)⟩
/-- The member of a key. -/
def memF (key : Bs) : Option J → Option J | some (.obj l) => lookK key l | _ => none
theorem getJ (w : World) (po : Option Addr) (o : Option J) (h : PoJ w po o) (key : Bs) :
    Calls Tryz.prog 45 #[.pointer po, .string ⟨key.toArray⟩] w fun e w' => ∃ po', e = .returned (.pointer po') ∧ w' = w ∧ PoJ w po' (memF key o) := by
  rcases h with ⟨rfl, rfl⟩ | ⟨b, j, rfl, rfl, h0, h2⟩
  · refine (get_no w key none (Or.inl rfl)).mono ?_
    rintro e w1 ⟨rfl, rfl⟩
    exact ⟨none, rfl, rfl, Or.inl ⟨rfl, rfl⟩⟩
  · by_cases hj : ∃ l, j = .obj l
    · obtain ⟨l, rfl⟩ := hj
      obtain ⟨x, K, L, hb, hK, hL, hN, hx, rfl⟩ := h2.parts
      have hxl := obj_cnt hN h0
      refine (get_c (m := x.map fun p => (p.1, p.2.2)) hb (by simpa [List.map_map, Function.comp_def] using hK) (by simpa [List.map_map, Function.comp_def] using hL) (by simp; omega) key).mono ?_
      rintro e w1 ⟨rfl, rfl⟩
      refine ⟨_, rfl, rfl, ?_⟩
      have hlo := lookK_ofL key _ hN
      rcases look_both key x with ⟨h1, h3⟩ | ⟨j, c, hm, h1, h3⟩
      · rw [h1]
        exact Or.inl ⟨rfl, hlo.trans h3⟩
      · rw [h1]
        have hcl := child_len (hlo.trans h3)
        exact Or.inr ⟨c, j, rfl, hlo.trans h3, by omega, hx key j c hm⟩
    · obtain ⟨n, t, K2, L2, hb2⟩ := h2.kind
      have hk : rkind j ≠ 123 := by
        cases j with
        | obj l2 => exact absurd ⟨l2, rfl⟩ hj
        | bool b => cases b <;> simp [rkind]
        | _ => simp [rkind]
      refine (get_no w key _ (Or.inr ⟨b, rkind j, n, t, K2, L2, rfl, hb2, hk⟩)).mono ?_
      rintro e w1 ⟨rfl, rfl⟩
      refine ⟨none, rfl, rfl, Or.inl ⟨rfl, ?_⟩⟩
      cases j with
      | obj l2 => exact absurd ⟨l2, rfl⟩ hj
      | _ => rfl
theorem named_c (w : World) (s : ByteArray) : Calls Tryz.prog 139 #[.string s] w fun e w' => e = .returned (.bool (isNm s.data.toList)) ∧ w' = w := by
  have hb : isNm s.data.toList = (decide ((0 : Int) < (s.size : Int)) && decide ((s.size : Int) ≤ 20)) := by
    unfold isNm
    have : s.data.toList.length = s.size := Array.length_toList
    rw [this, Bool.eq_iff_iff]
    simp
    omega
  have HB := hide hb
  clear hb
  by_cases h0 : (0 : Int) < (s.size : Int)
  · go_enter Tryz.func139, Tryz.ntmps139
    go_wp2
    go_ret
    exact ⟨by rw [HB.out]; simp; omega, rfl⟩
  · go_enter Tryz.func139, Tryz.ntmps139
    go_wp2
    go_ret
    exact ⟨by rw [HB.out]; simp; omega, rfl⟩
theorem kind_str {j : J} (h : rkind j = 34) : ∃ t, j = .str t := by
  cases j with
  | str t => exact ⟨t, rfl⟩
  | bool b => cases b <;> simp [rkind] at h
  | _ => simp [rkind] at h
theorem kind_num {j : J} (h : rkind j = 35) : ∃ n, j = .num n := by
  cases j with
  | num n => exact ⟨n, rfl⟩
  | bool b => cases b <;> simp [rkind] at h
  | _ => simp [rkind] at h
set_option maxRecDepth 20000 in
theorem rname_c (w : World) (po : Option Addr) (o : Option J) (h : PoJ w po o) :
    Calls Tryz.prog 80 #[.pointer po] w fun e w' => e = .returned (.bool (nameF o).isSome) ∧ w' = w := by
  rcases h with ⟨rfl, rfl⟩ | ⟨b, j, rfl, rfl, h0, h2⟩
  · go_enter Tryz.func80, Tryz.ntmps80
    go_wp2
    go_ret
    exact ⟨rfl, rfl⟩
  · by_cases hk : rkind j = 34
    · obtain ⟨t, rfl⟩ := kind_str hk
      cases h2 with
      | str t hF h =>
        obtain ⟨v0, v1, v2, v3, v4, z0, z1, z2, z3, z4, hvb⟩ := vfacts h
        have HN : Hid ((nameF (some (.str t))).isSome = isNm t) := by
          show _ = _
          unfold nameF strF
          by_cases hn : isNm t = true
          · simp [hn]
          · have : isNm t = false := by simpa using hn
            simp [this]
        go_enter Tryz.func80, Tryz.ntmps80
        go_wp2_with fail
        refine (named_c w ⟨t.toArray⟩).mono ?_
        rintro e w1 ⟨rfl, rfl⟩
        go_wp2
        go_ret
        exact ⟨by rw [HN.out]; rfl, rfl⟩
    · obtain ⟨n, t, K2, L2, hb2⟩ := h2.kind
      obtain ⟨v0, v1, v2, v3, v4, z0, z1, z2, z3, z4, hvb⟩ := vfacts hb2
      have hkn : (((rkind j : Nat) : Int) == 34) = false := by simp; omega
      have HN : Hid ((nameF (some j)).isSome = false) := by
        show _ = _
        cases j with
        | str t => exact absurd rfl hk
        | _ => rfl
      clear h2 hb2 hk
      generalize rkind j = kd at *
      go_enter Tryz.func80, Tryz.ntmps80
      go_wp2
      go_ret
      exact ⟨by rw [HN.out]; rfl, rfl⟩
set_option maxRecDepth 20000 in
theorem rcount_c (w : World) (po : Option Addr) (o : Option J) (h : PoJ w po o) :
    Calls Tryz.prog 81 #[.pointer po] w fun e w' => e = .returned (.bool (momF o).isSome) ∧ w' = w := by
  rcases h with ⟨rfl, rfl⟩ | ⟨b, j, rfl, rfl, h0, h2⟩
  · go_enter Tryz.func81, Tryz.ntmps81
    go_wp2
    go_ret
    exact ⟨rfl, rfl⟩
  · by_cases hk : rkind j = 35
    · obtain ⟨n, rfl⟩ := kind_num hk
      cases h2 with
      | num n hn hF h =>
        obtain ⟨v0, v1, v2, v3, v4, z0, z1, z2, z3, z4, hvb⟩ := vfacts h
        have HN : Hid ((momF (some (.num n))).isSome = decide (0 ≤ n)) := by
          show _ = _
          unfold momF
          by_cases hp : 0 ≤ n <;> simp [hp]
        go_enter Tryz.func81, Tryz.ntmps81
        go_wp2
        all_goals
          go_ret
          refine ⟨?_, rfl⟩
          rw [HN.out]
          first | rfl | (simp [*]; done) | (simp; omega)
    · obtain ⟨n, t, K2, L2, hb2⟩ := h2.kind
      obtain ⟨v0, v1, v2, v3, v4, z0, z1, z2, z3, z4, hvb⟩ := vfacts hb2
      have hkn : (((rkind j : Nat) : Int) == 35) = false := by simp; omega
      have HN : Hid ((momF (some j)).isSome = false) := by
        show _ = _
        cases j with
        | num t => exact absurd rfl hk
        | _ => rfl
      clear h2 hb2 hk
      generalize rkind j = kd at *
      go_enter Tryz.func81, Tryz.ntmps81
      go_wp2
      go_ret
      exact ⟨by rw [HN.out]; rfl, rfl⟩
end Go.Proofs.YtocligpfmfmihaaGreatDoor
namespace Go.Proofs.YtocligpfmfmihaaGreatDoor
open Go Go.RowKit Go.Maps

theorem infoKey : (Tryz.prog.info? 35).map (fun i => (i.zero, i.size, i.bytes)) = some (some (.agg #[.string ⟨#[]⟩, .string ⟨#[]⟩, .bool false, .int .i64 0]), 4, 48) := by kernel_rfl
/-- The cells of a key. -/
def kyC (k : Ky) : List Value := [.string ⟨k.id.toArray⟩, .string ⟨k.key.toArray⟩, .bool k.old, .int .i64 k.till]
theorem keysF_snoc (old : Bool) (till : Int) (l : List (Bs × J)) (id : Bs) (j : J) : keysF old till (l ++ [(id, j)]) = (keysF old till l).bind fun r => (keyF old till id j).map fun k => r ++ [k] := by
  induction l with
  | nil => cases h : keyF old till id j <;> simp [keysF, h]
  | cons p l ih =>
    obtain ⟨a, q⟩ := p
    simp only [List.cons_append, keysF, ih]
    cases keyF old till a q with
    | none => rfl
    | some k =>
      simp only [Option.bind_some]
      cases keysF old till l with
      | none => rfl
      | some r => cases keyF old till id j <;> simp
theorem keysF_app (old : Bool) (till : Int) (l m : List (Bs × J)) (h : keysF old till l = none) : keysF old till (l ++ m) = none := by
  induction l with
  | nil => cases h
  | cons p l ih =>
    obtain ⟨a, q⟩ := p
    simp only [List.cons_append, keysF] at h ⊢
    cases hk : keyF old till a q with
    | none => rfl
    | some k =>
      rw [hk] at h
      simp only [Option.bind_some, Option.map_eq_none_iff] at h ⊢
      exact ih h
theorem kyC_len (l : List Ky) : (l.flatMap kyC).length = l.length * 4 := by
  induction l with
  | nil => rfl
  | cons k l ih =>
    simp only [List.flatMap_cons, List.length_append, List.length_cons, ih, kyC, List.length_nil]
    omega
/-- One key, by its parts. -/
theorem keyF_parts (old : Bool) (till : Int) (id : Bs) (j : J) : keyF old till id j =
    if isNm id = true then (strF (memF kKey (some j))).bind fun k => if old then (momF (memF kExp (some j))).map fun t => ⟨id, k, true, t⟩ else some ⟨id, k, false, till⟩ else none := by
  unfold keyF
  by_cases h : isNm id = true
  · rw [if_pos h, if_pos h]
    cases j with
    | obj m => rfl
    | _ => rfl
  · rw [if_neg h, if_neg h]
end Go.Proofs.YtocligpfmfmihaaGreatDoor
namespace Go.Proofs.YtocligpfmfmihaaGreatDoor
open Go Go.RowKit Go.Maps Go.WideMaps

/-- The four errors that have numbers of their own. -/
def four : List Nat := [0, 1, 2, 3]
/-- One of errors.New's that is none of the four. -/
def Plain (W : World) (a : Addr) : Prop := (∃ c t, W.heap[a.block]? = some (.cells c t)) ∧ ∀ g ∈ four, W.cell? ⟨g, 0, none⟩ ≠ some (errV a)
/-- What more the variables of the program hold. -/
structure NG2 (W : World) : Prop where
  ng : NG W
  lay : ∀ g ∈ four, ∃ a c t, W.cell? ⟨g, 0, none⟩ = some (errV a) ∧ W.heap[a.block]? = some (.cells c t)
  sml : ∀ g ∈ [14, 13, 15, 16, 17, 7], ∃ a, W.cell? ⟨g, 0, none⟩ = some (errV a) ∧ Plain W a
/-- An error of members, of a document: a chain down to a plain one. -/
inductive Ech (W w : World) : Value → Prop
  | base (a : Addr) : Plain W a → Ech W w (errV a)
  | mem (b : Nat) (s : ByteArray) (ev : Value) : w.heap[b]? = some (.cells #[.string s, ev] 252) → Ech W w ev → Ech W w (.iface 250 (.pointer (some ⟨b, 0, none⟩)))
theorem Ech.up {W w w' : World} {ev : Value} (h : Ech W w ev) (hk : Kp (fun _ => False) w w') : Ech W w' ev := by
  induction h with
  | base a h => exact .base a h
  | mem b s ev h _ ih => exact .mem b s ev (hk.heap h) ih
theorem Ech.iface {W w : World} {ev : Value} (h : Ech W w ev) : ∃ t u, ev = .iface t u := by
  cases h with
  | base a h => exact ⟨_, _, rfl⟩
  | mem b s ev h _ => exact ⟨_, _, rfl⟩

/-- What stands under a key, as the program holds it. -/
def UdV (w : World) (o : Option J) (v : Value) : Prop := match o with | none => v = .nilIface | some j => Rep w (fun k => k < w.heap.size) j v
theorem usn (w : World) : (Instr.typeAssert .nilIface 59 137 true).run Tryz.prog w = .ok (.tuple #[.string ⟨#[]⟩, .bool false]) w := by kernel_rfl
theorem us0 (w : World) : (Instr.typeAssert (.iface 221 (.agg #[])) 59 137 true).run Tryz.prog w = .ok (.tuple #[.string ⟨#[]⟩, .bool false]) w := by kernel_rfl
theorem us1 (b : Bool) (w : World) : (Instr.typeAssert (.iface 222 (.bool b)) 59 137 true).run Tryz.prog w = .ok (.tuple #[.string ⟨#[]⟩, .bool false]) w := by kernel_rfl
theorem us2 (n : Int) (w : World) : (Instr.typeAssert (.iface 224 (.int .i64 n)) 59 137 true).run Tryz.prog w = .ok (.tuple #[.string ⟨#[]⟩, .bool false]) w := by kernel_rfl
theorem us3 (s : ByteArray) (w : World) : (Instr.typeAssert (.iface 137 (.string s)) 59 137 true).run Tryz.prog w = .ok (.tuple #[.string s, .bool true]) w := by kernel_rfl
theorem us4 (sv : Value) (w : World) : (Instr.typeAssert (.iface 228 sv) 59 137 true).run Tryz.prog w = .ok (.tuple #[.string ⟨#[]⟩, .bool false]) w := by kernel_rfl
theorem us5 (mb : Option Nat) (w : World) : (Instr.typeAssert (.iface 71 (.map mb)) 59 137 true).run Tryz.prog w = .ok (.tuple #[.string ⟨#[]⟩, .bool false]) w := by kernel_rfl
theorem umn (w : World) : (Instr.typeAssert .nilIface 59 224 true).run Tryz.prog w = .ok (.tuple #[.int .i64 0, .bool false]) w := by kernel_rfl
theorem um0 (w : World) : (Instr.typeAssert (.iface 221 (.agg #[])) 59 224 true).run Tryz.prog w = .ok (.tuple #[.int .i64 0, .bool false]) w := by kernel_rfl
theorem um1 (b : Bool) (w : World) : (Instr.typeAssert (.iface 222 (.bool b)) 59 224 true).run Tryz.prog w = .ok (.tuple #[.int .i64 0, .bool false]) w := by kernel_rfl
theorem um2 (n : Int) (w : World) : (Instr.typeAssert (.iface 224 (.int .i64 n)) 59 224 true).run Tryz.prog w = .ok (.tuple #[.int .i64 n, .bool true]) w := by kernel_rfl
theorem um3 (s : ByteArray) (w : World) : (Instr.typeAssert (.iface 137 (.string s)) 59 224 true).run Tryz.prog w = .ok (.tuple #[.int .i64 0, .bool false]) w := by kernel_rfl
theorem um4 (sv : Value) (w : World) : (Instr.typeAssert (.iface 228 sv) 59 224 true).run Tryz.prog w = .ok (.tuple #[.int .i64 0, .bool false]) w := by kernel_rfl
theorem um5 (mb : Option Nat) (w : World) : (Instr.typeAssert (.iface 71 (.map mb)) 59 224 true).run Tryz.prog w = .ok (.tuple #[.int .i64 0, .bool false]) w := by kernel_rfl
theorem uon (w : World) : (Instr.typeAssert .nilIface 59 71 true).run Tryz.prog w = .ok (.tuple #[.map none, .bool false]) w := by kernel_rfl
theorem ud_look (w : World) (l : List (Bs × J)) (b : Nat) (k : Bs) (hk : k.length ≤ 139000000000000) (ho : Oz w l b) :
    ∃ v, (Instr.lookup 71 (.map (some b)) (.string ⟨k.toArray⟩) false).run Tryz.prog w = .ok v w ∧ UdV w (lookK k l) v := by
  obtain ⟨b', m, e, hFb, hown, hrep⟩ := ho.shape
  cases e
  obtain ⟨lv, lps, hlk, hlr⟩ := hown.lookup keyed Tryz.underlying71 (zeroV w) (R := Rv) (zd := .held .nilIface) (zp := []) rfl (key_mk2 hk)
  refine ⟨lv, hlk, ?_⟩
  rw [dm_at] at hlr
  rcases Repm.look k l m hrep with ⟨e1, e2⟩ | ⟨v, x, e1, e2, hx⟩
  · rw [e1] at hlr
    simp only [Rv, Option.some.injEq, Prod.mk.injEq, DataW.held.injEq] at hlr
    rw [e2]
    exact hlr.1
  · rw [e1] at hlr
    simp only [Rv, Option.some.injEq, Prod.mk.injEq, DataW.held.injEq] at hlr
    rw [e2]
    show Rep _ _ _ _
    rw [hlr.1]
    exact hx
theorem UdV.shape {w : World} {o : Option J} {v : Value} (h : UdV w o v) : v = .nilIface ∨ ∃ t u, v = .iface t u := by
  cases o with
  | none => exact Or.inl h
  | some j => exact Or.inr (Rep.iface h)
/-- As a text. -/
theorem ud_str {w : World} {o : Option J} {v : Value} (h : UdV w o v) : (∃ s, strF o = some s ∧ ∀ w', (Instr.typeAssert v 59 137 true).run Tryz.prog w' = .ok (.tuple #[.string ⟨s.toArray⟩, .bool true]) w') ∨
    (strF o = none ∧ ∀ w', (Instr.typeAssert v 59 137 true).run Tryz.prog w' = .ok (.tuple #[.string ⟨#[]⟩, .bool false]) w') := by
  cases o with
  | none => cases h; exact Or.inr ⟨rfl, usn⟩
  | some j =>
    have h : Rep w (fun k => k < w.heap.size) j v := h
    cases j with
    | null => rw [Rep] at h; cases h; exact Or.inr ⟨rfl, us0⟩
    | bool b => rw [Rep] at h; cases h; exact Or.inr ⟨rfl, us1 b⟩
    | num n => rw [Rep] at h; cases h; exact Or.inr ⟨rfl, us2 n⟩
    | str s => rw [Rep] at h; cases h; exact Or.inl ⟨s, rfl, us3 _⟩
    | arr l => rw [Rep] at h; obtain ⟨sv, vs, e, _⟩ := h; cases e; exact Or.inr ⟨rfl, us4 _⟩
    | obj l => rw [Rep] at h; obtain ⟨b, m, e, _⟩ := h; cases e; exact Or.inr ⟨rfl, us5 _⟩
/-- The number of a value. -/
def numF : Option J → Option Int | some (.num n) => some n | _ => none
theorem ud_num {w : World} {o : Option J} {v : Value} (h : UdV w o v) : (∃ n, numF o = some n ∧ ∀ w', (Instr.typeAssert v 59 224 true).run Tryz.prog w' = .ok (.tuple #[.int .i64 n, .bool true]) w') ∨
    (numF o = none ∧ ∀ w', (Instr.typeAssert v 59 224 true).run Tryz.prog w' = .ok (.tuple #[.int .i64 0, .bool false]) w') := by
  cases o with
  | none => cases h; exact Or.inr ⟨rfl, umn⟩
  | some j =>
    have h : Rep w (fun k => k < w.heap.size) j v := h
    cases j with
    | null => rw [Rep] at h; cases h; exact Or.inr ⟨rfl, um0⟩
    | bool b => rw [Rep] at h; cases h; exact Or.inr ⟨rfl, um1 b⟩
    | num n => rw [Rep] at h; cases h; exact Or.inl ⟨n, rfl, um2 _⟩
    | str s => rw [Rep] at h; cases h; exact Or.inr ⟨rfl, um3 _⟩
    | arr l => rw [Rep] at h; obtain ⟨sv, vs, e, _⟩ := h; cases e; exact Or.inr ⟨rfl, um4 _⟩
    | obj l => rw [Rep] at h; obtain ⟨b, m, e, _⟩ := h; cases e; exact Or.inr ⟨rfl, um5 _⟩
/-- The members of a value. -/
def objF : Option J → Option (List (Bs × J)) | some (.obj m) => some m | _ => none
theorem ud_obj {w : World} {o : Option J} {v : Value} (h : UdV w o v) : (∃ m b, objF o = some m ∧ Oz w m b ∧ ∀ w', (Instr.typeAssert v 59 71 true).run Tryz.prog w' = .ok (.tuple #[.map (some b), .bool true]) w') ∨
    (objF o = none ∧ ∀ w', (Instr.typeAssert v 59 71 true).run Tryz.prog w' = .ok (.tuple #[.map none, .bool false]) w') := by
  cases o with
  | none => cases h; exact Or.inr ⟨rfl, uon⟩
  | some j =>
    have h : Rep w (fun k => k < w.heap.size) j v := h
    cases j with
    | null => rw [Rep] at h; cases h; exact Or.inr ⟨rfl, to0⟩
    | bool b => rw [Rep] at h; cases h; exact Or.inr ⟨rfl, to1 b⟩
    | num n => rw [Rep] at h; cases h; exact Or.inr ⟨rfl, to2 _⟩
    | str s => rw [Rep] at h; cases h; exact Or.inr ⟨rfl, to3 _⟩
    | arr l => rw [Rep] at h; obtain ⟨sv, vs, e, _⟩ := h; cases e; exact Or.inr ⟨rfl, to4 _⟩
    | obj l =>
      have h0 := h
      rw [Rep] at h
      obtain ⟨b, m, e, _⟩ := h
      cases e
      exact Or.inl ⟨l, b, rfl, h0, ta55 _⟩
/-- The error of a member. -/
theorem ech_new {W w w' : World} {s : ByteArray} {ev : Value} (h : Ech W w' ev) (hb : w'.heap[w.heap.size]? = some (.cells #[.string s, ev] 252)) : Ech W w' (.iface 250 (.pointer (some ⟨w.heap.size, 0, none⟩))) := .mem _ s ev hb h
/-- What a call comes to that hands back a value or an error. -/
def UnR (W w : World) (z : Value) (o : Option Value) (e : Ending) (w' : World) : Prop := Kp (fun _ => False) w w' ∧ match o with
  | some v => e = .returned (.tuple #[v, .nilIface])
  | none => ∃ ev, e = .returned (.tuple #[z, ev]) ∧ Ech W w' ev
theorem ech_box {W w : World} {s : ByteArray} {ev : Value} (h : Ech W w ev) : Ech W (w.alloc (.cells #[.string s, ev] 252)).drew (.iface 250 (.pointer (some ⟨w.heap.size, 0, none⟩))) :=
  .mem _ s ev (by exact heap_alloc_new w _) (h.up (((Kp.refl _ w).alloc _).drew))
theorem un_new {W w0 w : World} {s : ByteArray} {z ev : Value} (hk : Kp (fun _ => False) w0 w) (h : Ech W w ev) : UnR W w0 z none (.returned (.tuple #[z, .iface 250 (.pointer (some ⟨w.heap.size, 0, none⟩))])) (w.alloc (.cells #[.string s, ev] 252)).drew :=
  ⟨(hk.alloc _).drew, _, rfl, ech_box h⟩
theorem momF_num (o : Option J) : momF o = (numF o).bind fun n => if 0 ≤ n then some n else none := by
  cases o with
  | none => rfl
  | some j => cases j <;> rfl
set_option maxRecDepth 20000 in
theorem textUnder_c (W : World) (hN : NG2 W) (w : World) (hW : Below W.heap.size W w) (l : List (Bs × J)) (b : Nat) (k : Bs) (hk : k.length ≤ 139000000000000) (ho : Oz w l b) :
    Calls Tryz.prog 138 #[.map (some b), .string ⟨k.toArray⟩] w fun e w' => UnR W w (.string ⟨#[]⟩) ((strF (lookK k l)).map fun s => .string ⟨s.toArray⟩) e w' := by
  obtain ⟨v, hlk, hud⟩ := ud_look w l b k hk ho
  obtain ⟨a, ha, hp⟩ := hN.sml 14 (by simp)
  have hc := Below.cl hW ha
  have HE : Hid (Ech W w (errV a)) := Ech.base a hp
  unfold errV at hc HE
  clear ha hp ho
  rcases ud_str hud with ⟨s, hs, hta⟩ | ⟨hs, hta⟩
  · rw [hs]
    rcases hud.shape with rfl | ⟨tt, u, rfl⟩
    all_goals
      clear hud hs
      go_enter Tryz.func138, Tryz.ntmps138
      go_wp2
      go_ret2
      exact ⟨Kp.refl _ _, rfl⟩
  · rw [hs]
    rcases hud.shape with rfl | ⟨tt, u, rfl⟩
    all_goals
      clear hud hs
      go_enter Tryz.func138, Tryz.ntmps138
      go_wp2
      go_region
      go_wp2
      go_ret2
      exact un_new (Kp.refl _ _) HE.out
/-- What objectUnder comes to. -/
def OuR (W w : World) (o : Option (List (Bs × J))) (e : Ending) (w' : World) : Prop := Kp (fun _ => False) w w' ∧ match o with
  | some m => ∃ b, e = .returned (.tuple #[.map (some b), .nilIface]) ∧ Oz w' m b
  | none => ∃ ev, e = .returned (.tuple #[.map none, ev]) ∧ Ech W w' ev
set_option maxRecDepth 20000 in
theorem objectUnder_c (W : World) (hN : NG2 W) (w : World) (hW : Below W.heap.size W w) (l : List (Bs × J)) (b : Nat) (k : Bs) (hk : k.length ≤ 139000000000000) (ho : Oz w l b) :
    Calls Tryz.prog 217 #[.map (some b), .string ⟨k.toArray⟩] w fun e w' => OuR W w (objF (lookK k l)) e w' := by
  obtain ⟨v, hlk, hud⟩ := ud_look w l b k hk ho
  obtain ⟨a, ha, hp⟩ := hN.sml 14 (by simp)
  have hc := Below.cl hW ha
  have HE : Hid (Ech W w (errV a)) := Ech.base a hp
  unfold errV at hc HE
  clear ha hp ho
  rcases ud_obj hud with ⟨m, b2, hs, hm, hta⟩ | ⟨hs, hta⟩
  · rw [hs]
    rcases hud.shape with rfl | ⟨tt, u, rfl⟩
    all_goals
      clear hud hs
      go_enter Tryz.func217, Tryz.ntmps217
      go_wp2
      go_ret2
      exact ⟨Kp.refl _ _, b2, rfl, hm⟩
  · rw [hs]
    rcases hud.shape with rfl | ⟨tt, u, rfl⟩
    all_goals
      clear hud hs
      go_enter Tryz.func217, Tryz.ntmps217
      go_wp2
      go_region
      go_wp2
      go_ret2
      exact un_new (Kp.refl _ _) HE.out
set_option maxRecDepth 20000 in
theorem momentUnder_c (W : World) (hN : NG2 W) (w : World) (hW : Below W.heap.size W w) (l : List (Bs × J)) (b : Nat) (k : Bs) (hk : k.length ≤ 139000000000000) (ho : Oz w l b) :
    Calls Tryz.prog 134 #[.map (some b), .string ⟨k.toArray⟩] w fun e w' => UnR W w (.int .i64 0) ((momF (lookK k l)).map fun n => .int .i64 n) e w' := by
  obtain ⟨v, hlk, hud⟩ := ud_look w l b k hk ho
  obtain ⟨a, ha, hp⟩ := hN.sml 14 (by simp)
  obtain ⟨a2, ha2, hp2⟩ := hN.sml 15 (by simp)
  have hc := Below.cl hW ha
  have hc2 := Below.cl hW ha2
  have HE : Hid (Ech W w (errV a)) := Ech.base a hp
  have HE2 : Hid (Ech W w (errV a2)) := Ech.base a2 hp2
  unfold errV at hc HE hc2 HE2
  clear ha hp ho ha2 hp2
  rw [momF_num]
  rcases ud_num hud with ⟨n, hs, hta⟩ | ⟨hs, hta⟩
  · rw [hs]
    by_cases hn : 0 ≤ n
    · have hn' : decide (n < 0) = false := by simp; omega
      have hz := hide (show ((some n).bind fun n => if 0 ≤ n then some n else none) = some n by simp [hn])
      rcases hud.shape with rfl | ⟨tt, u, rfl⟩
      all_goals
        clear hud hs hn
        go_enter Tryz.func134, Tryz.ntmps134
        go_wp2
        go_ret2
        rw [hz.out]
        exact ⟨Kp.refl _ _, rfl⟩
    · have hn' : decide (n < 0) = true := by simp; omega
      have hz := hide (show ((some n).bind fun n => if 0 ≤ n then some n else none) = none by simp [hn])
      rcases hud.shape with rfl | ⟨tt, u, rfl⟩
      all_goals
        clear hud hs hn
        go_enter Tryz.func134, Tryz.ntmps134
        go_wp2
        go_region
        go_wp2
        go_ret2
        rw [hz.out]
        exact un_new (Kp.refl _ _) HE2.out
  · rw [hs]
    rcases hud.shape with rfl | ⟨tt, u, rfl⟩
    all_goals
      clear hud hs
      go_enter Tryz.func134, Tryz.ntmps134
      go_wp2
      go_region
      go_wp2
      go_ret2
      exact un_new (Kp.refl _ _) HE.out
set_option maxRecDepth 20000 in
theorem isName_c (s : Bs) (w : World) : Calls Tryz.prog 174 #[.string ⟨s.toArray⟩] w fun e w' => e = .returned (.bool (isNm s)) ∧ w' = w := by
  have hsz := mk_size2 s
  by_cases h1 : 1 ≤ s.length
  · have g1 : decide ((1 : Int) ≤ (s.length : Int)) = true := by simp; omega
    by_cases h2 : s.length ≤ 20
    · have g2 : decide ((s.length : Int) ≤ 20) = true := by simp; omega
      have hz := hide (show isNm s = true by simp [isNm, h1, h2])
      clear h1 h2
      go_enter Tryz.func174, Tryz.ntmps174
      go_wp2
      go_ret
      rw [hz.out]
      exact ⟨rfl, rfl⟩
    · have g2 : decide ((s.length : Int) ≤ 20) = false := by simp; omega
      have hz := hide (show isNm s = false by simp [isNm, h2])
      clear h1 h2
      go_enter Tryz.func174, Tryz.ntmps174
      go_wp2
      go_ret
      rw [hz.out]
      exact ⟨rfl, rfl⟩
  · have g1 : decide ((1 : Int) ≤ (s.length : Int)) = false := by simp; omega
    have hz := hide (show isNm s = false by simp [isNm]; omega)
    clear h1
    go_enter Tryz.func174, Tryz.ntmps174
    go_wp2
    go_ret
    rw [hz.out]
    exact ⟨rfl, rfl⟩
set_option maxRecDepth 20000 in
theorem nameUnder_c (W : World) (hN : NG2 W) (w : World) (hW : Below W.heap.size W w) (l : List (Bs × J)) (b : Nat) (k : Bs) (hk : k.length ≤ 139000000000000) (ho : Oz w l b) :
    Calls Tryz.prog 133 #[.map (some b), .string ⟨k.toArray⟩] w fun e w' => UnR W w (.string ⟨#[]⟩) ((nameF (lookK k l)).map fun s => .string ⟨s.toArray⟩) e w' := by
  obtain ⟨a, ha, hp⟩ := hN.sml 13 (by simp)
  have HX := hide (textUnder_c W hN w hW l b k hk ho)
  clear ho
  go_enter Tryz.func133, Tryz.ntmps133
  go_wp2_with fail
  refine HX.out.mono ?_
  rintro e w1 ⟨K1, h1⟩
  have hc := Below.cl (below_kp hW K1) ha
  have HE : Hid (Ech W w1 (errV a)) := Ech.base a hp
  unfold errV at hc HE
  have HK := hide K1
  clear HX ha hp K1
  have hnf : nameF (lookK k l) = (strF (lookK k l)).bind fun s => if isNm s then some s else none := rfl
  cases hs : strF (lookK k l) with
  | none =>
    rw [hs] at h1
    obtain ⟨ev, rfl, he⟩ := h1
    obtain ⟨tt, u, rfl⟩ := he.iface
    have HE2 := hide he
    rw [hs] at hnf
    have hz := hide hnf
    clear he hs hnf
    go_wp2
    go_ret2
    rw [hz.out]
    exact ⟨HK.out, _, rfl, HE2.out⟩
  | some s =>
    rw [hs] at h1
    replace h1 : e = .returned (.tuple #[.string ⟨s.toArray⟩, .nilIface]) := h1
    subst h1
    rw [hs] at hnf
    clear hs
    cases hn : isNm s with
    | true =>
      have hz := hide (show nameF (lookK k l) = some s by rw [hnf]; simp [hn])
      clear hnf
      have HN := hide hn
      clear hn
      go_wp2_with fail
      refine (isName_c s w1).mono ?_
      rintro e w2 ⟨rfl, rfl⟩
      rw [HN.out]
      go_wp2
      go_ret2
      rw [hz.out]
      exact ⟨HK.out, rfl⟩
    | false =>
      have hz := hide (show nameF (lookK k l) = none by rw [hnf]; simp [hn])
      clear hnf
      have HN := hide hn
      clear hn
      go_wp2_with fail
      refine (isName_c s w1).mono ?_
      rintro e w2 ⟨rfl, rfl⟩
      rw [HN.out]
      go_wp2
      go_region
      go_wp2
      go_ret2
      rw [hz.out]
      exact un_new HK.out HE.out
end Go.Proofs.YtocligpfmfmihaaGreatDoor

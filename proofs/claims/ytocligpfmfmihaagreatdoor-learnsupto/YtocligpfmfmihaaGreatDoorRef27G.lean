import Derived.Test.YtocligpfmfmihaaGreatDoorRef20G
import Derived.Test.YtocligpfmfmihaaGreatDoorRef24G
import Derived.Test.YtocligpfmfmihaaGreatDoorCore
import Derived.Deep.CutRange
namespace Go.Proofs.YtocligpfmfmihaaGreatDoor
open Go Go.RowKit Go.Maps
def PoL (w : World) (po : Option Addr) (l : List (Bs × J)) : Prop :=
 (l = [] ∧ (po = none ∨ ∃ b kind n t K L, po = some ⟨b, 0, none⟩ ∧ w.heap[b]? = some (vCells kind n t K L) ∧ kind ≠ 123)) ∨
 ((cJ (.obj l)).length ≤ 600 ∧ ∃ b, po = some ⟨b, 0, none⟩ ∧ RR w (fun c => c < w.heap.size) (.obj l) b)
theorem PoL.kp {w w' : World} {po : Option Addr} {l : List (Bs × J)} (h : PoL w po l) (hk : Kp (fun _ => False) w w') : PoL w' po l := by
 rcases h with ⟨h1, h2⟩ | ⟨h0, b, h1, h2⟩
 ·refine Or.inl ⟨h1, ?_⟩
  rcases h2 with h2 | ⟨b, kind, n, t, K, L, e, hb, hk'⟩
  ·exact Or.inl h2
  ·exact Or.inr ⟨b, kind, n, t, K, L, e, vkp hb hk, hk'⟩
 ·exact Or.inr ⟨h0, b, h1, h2.frame (fun k hk2 => hk.block k hk2 (by simp)) (fun k hk2 => Nat.lt_of_lt_of_le hk2 hk.size)⟩
theorem RR.parts {w : World} {F : Nat → Prop} {l : List (Bs × J)} {b : Nat} (h : RR w F (.obj l) b) : ∃ (x : List (Bs × J × Nat)) (K L : Value), w.heap[b]? = some (vCells 123 0 [] K L) ∧ w.ownsRow 0 9 1 K x.length (x.map fun p => .string ⟨p.1.toArray⟩) ∧ w.ownsRow 0 66 1 L x.length (x.map fun p => ptr p.2.2) ∧
  Nod (x.map fun p : Bs × J × Nat => (p.1, p.2.1)) ∧ (∀ a j c, (a, j, c) ∈ x → RR w F j c) ∧ l = ofL (x.map fun p => (p.1, p.2.1)) := by
 generalize hJ : J.obj l = j at h
 cases h with
 | obj x K L hFb h hK hL hG hH hN hx =>
  injection hJ with hJ
  exact ⟨x, K, L, h, hK, hL, hN, hx, hJ⟩
 | _ => cases hJ
theorem obj_cnt {x : List (Bs × J × Nat)} (hN : Nod (x.map fun p => (p.1, p.2.1))) {n : Nat} (h : (cJ (.obj (ofL (x.map fun p => (p.1, p.2.1))))).length ≤ n) : x.length ≤ n := by
 have hcnt := joinC_cnt ((ofL (x.map fun p => (p.1, p.2.1))).map cMem)
 have hol := ofL_len _ hN
 rw [cJ_obj] at h
 simp only [List.length_cons, List.length_append, List.length_nil, List.length_map] at h hcnt hol
 omega
theorem child_len {k : Bs} {l : List (Bs × J)} {j : J} (h : lookK k l = some j) : (cJ j).length ≤ (cJ (.obj l)).length := by
 have hm := lookK_mem h
 have := (joinC_le (l.map cMem) 0).2 (cMem (k, j)) (List.mem_map.2 ⟨_, hm, rfl⟩)
 rw [cJ_obj]
 simp only [cMem, List.length_append, List.length_cons, List.length_nil] at this ⊢
 omega
theorem getAny (w : World) (po : Option Addr) (l : List (Bs × J)) (h : PoL w po l) (key : Bs) :
  Calls Tryz.prog 45 #[.pointer po, .string ⟨key.toArray⟩] w fun e w' => ∃ po', e = .returned (.pointer po') ∧ w' = w ∧ PoL w po' (childF key l) := by
 rcases h with ⟨rfl, h2⟩ | ⟨h0, b, rfl, h2⟩
 ·refine (get_no w key po h2).mono ?_
  rintro e w1 ⟨rfl, rfl⟩
  exact ⟨none, rfl, rfl, Or.inl ⟨rfl, Or.inl rfl⟩⟩
 ·obtain ⟨x, K, L, hb, hK, hL, hN, hx, rfl⟩ := h2.parts
  have hxl := obj_cnt hN h0
  refine (get_c (m := x.map fun p => (p.1, p.2.2)) hb (by simpa [List.map_map, Function.comp_def] using hK) (by simpa [List.map_map, Function.comp_def] using hL) (by simp; omega) key).mono ?_
  rintro e w1 ⟨rfl, rfl⟩
  refine ⟨_, rfl, rfl, ?_⟩
  have hlo := lookK_ofL key _ hN
  rcases look_both key x with ⟨h1, h3⟩ | ⟨j, c, hm, h1, h3⟩
  ·rw [h1]
   refine Or.inl ⟨?_, Or.inl rfl⟩
   rw [childF, hlo, h3]
  ·rw [h1]
   have hr := hx key j c hm
   have hcl := child_len (hlo.trans h3)
   obtain ⟨n, t, K2, L2, hb2⟩ := hr.kind
   by_cases hk : ∃ l2, j = .obj l2
   ·obtain ⟨l2, rfl⟩ := hk
    refine Or.inr ⟨?_, c, rfl, ?_⟩
    ·rw [childF, hlo, h3]
     simp only
     omega
    ·rw [childF, hlo, h3]
     exact hr
   ·refine Or.inl ⟨?_, Or.inr ⟨c, rkind j, n, t, K2, L2, rfl, hb2, ?_⟩⟩
    ·rw [childF, hlo, h3]
     cases j with
     | obj l2 => exact absurd ⟨l2, rfl⟩ hk
     | _ => rfl
    ·cases j with
     | obj l2 => exact absurd ⟨l2, rfl⟩ hk
     | bool b => cases b <;> simp [rkind]
     | _ => simp [rkind]
theorem putAny (w : World) (po : Option Addr) (l : List (Bs × J)) (h : PoL w po l) (key : Bs) (xb : Nat) (jx : J) (hx : RR w (fun c => c < w.heap.size) jx xb) :
  Calls Tryz.prog 46 #[.pointer po, .string ⟨key.toArray⟩, .pointer (some ⟨xb, 0, none⟩)] w fun e w' =>
   e = .returned (.pointer (some ⟨w.heap.size, 0, none⟩)) ∧ Kp (fun _ => False) w w' ∧ RR w' (fun c => c < w'.heap.size) (.obj (insK key jx l)) w.heap.size := by
 rcases h with ⟨rfl, h2⟩ | ⟨h0, b, rfl, h2⟩
 ·refine (rput_no w xb key po h2).mono ?_
  rintro e w1 ⟨rfl, K1, K, L, A⟩
  refine ⟨rfl, K1, ?_⟩
  have hfr : ∀ k, k < w.heap.size → w1.heap[k]? = w.heap[k]? ∧ k < w1.heap.size := fun k hk => ⟨K1.block k hk (by simp), Nat.lt_of_lt_of_le hk K1.size⟩
  exact put_tree (x := []) (F := fun _ => False) List.nodup_nil A (fun _ _ _ hm => by cases hm) hx (fun _ h => h.elim) hfr
 ·obtain ⟨x, K, L, hb, hK, hL, hN, hxx, rfl⟩ := h2.parts
  have hxl := obj_cnt hN h0
  refine (rput_c w b xb key (x.map fun p => (p.1, p.2.2)) K L hb (by simpa [List.map_map, Function.comp_def] using hK) (by simpa [List.map_map, Function.comp_def] using hL) (by simp; omega)).mono ?_
  rintro e w1 ⟨rfl, K1, K', L', A⟩
  refine ⟨rfl, K1, ?_⟩
  have hfr : ∀ k, k < w.heap.size → w1.heap[k]? = w.heap[k]? ∧ k < w1.heap.size := fun k hk => ⟨K1.block k hk (by simp), Nat.lt_of_lt_of_le hk K1.size⟩
  exact put_tree hN A hxx hx hfr hfr
end Go.Proofs.YtocligpfmfmihaaGreatDoor
namespace Go.Proofs.YtocligpfmfmihaaGreatDoor
open Go.Lib
structure Ky where
 id : Bs
 key : Bs
 old : Bool
 till : Int
def kSrv : Bs := [115, 101, 114, 118, 101, 114, 95, 110, 97, 109, 101]
def kUnt : Bs := [118, 97, 108, 105, 100, 95, 117, 110, 116, 105, 108, 95, 116, 115]
def kVer : Bs := [118, 101, 114, 105, 102, 121, 95, 107, 101, 121, 115]
def kOld : Bs := [111, 108, 100, 95, 118, 101, 114, 105, 102, 121, 95, 107, 101, 121, 115]
def kKey : Bs := [107, 101, 121]
def kExp : Bs := [101, 120, 112, 105, 114, 101, 100, 95, 116, 115]
def isNm (s : Bs) : Bool := decide (1 ≤ s.length) && decide (s.length ≤ 20)
def strF : Option J → Option Bs | some (.str s) => some s | _ => none
def nameF (o : Option J) : Option Bs := (strF o).bind fun s => if isNm s then some s else none
def momF : Option J → Option Int | some (.num n) => if 0 ≤ n then some n else none | _ => none
def keyF (old : Bool) (till : Int) (id : Bs) (j : J) : Option Ky :=
 if isNm id then
  match j with
  | .obj m => (strF (lookK kKey m)).bind fun k => if old then (momF (lookK kExp m)).map fun t => ⟨id, k, true, t⟩ else some ⟨id, k, false, till⟩
  | _ => none
 else none
def keysF (old : Bool) (till : Int) : List (Bs × J) → Option (List Ky)
 | [] => some []
 | (id, j) :: l => (keyF old till id j).bind fun k => (keysF old till l).map fun r => k :: r
def joinF (a b : List Ky) : Option (List Ky) :=
 if (((a ++ b).map (·.id)).Nodup) then some ((ofL ((a ++ b).map fun k => (k.id, k))).map (·.2)) else none
def oldF (l : List (Bs × J)) : Option (List Ky) := match lookK kOld l with | none => some [] | some (.obj m) => keysF true 0 m | some _ => none
def docF (l : List (Bs × J)) : Option (Bs × Int × List Ky) :=
 (nameF (lookK kSrv l)).bind fun s => (momF (lookK kUnt l)).bind fun u =>
  match lookK kVer l with
  | some (.obj m) => if 1 ≤ m.length ∧ m.length ≤ 4 then (keysF false u m).bind fun a => (oldF l).bind fun b => (joinF a b).map fun ks => (s, u, ks) else none
  | _ => none
theorem keysF_ids {old : Bool} {till : Int} : ∀ {l : List (Bs × J)} {r : List Ky}, keysF old till l = some r → r.map (·.id) = l.map (·.1) ∧ ∀ k ∈ r, k.old = old ∧ isNm k.id = true
 | [], r, h => by
  simp only [keysF, Option.some.injEq] at h
  subst h
  exact ⟨rfl, by simp⟩
 | (id, j) :: l, r, h => by
  simp only [keysF, Option.bind_eq_some_iff, Option.map_eq_some_iff] at h
  obtain ⟨k, hk, q, hq, rfl⟩ := h
  obtain ⟨h1, h2⟩ := keysF_ids hq
  have hk' : k.id = id ∧ k.old = old ∧ isNm id = true := by
   unfold keyF at hk
   split at hk
   ·rename_i hn
    split at hk
    ·simp only [Option.bind_eq_some_iff] at hk
     obtain ⟨a, _, hk⟩ := hk
     split at hk
     ·rename_i ho
      simp only [Option.map_eq_some_iff] at hk
      obtain ⟨t, _, rfl⟩ := hk
      exact ⟨rfl, by simp [ho], hn⟩
     ·rename_i ho
      simp only [Option.some.injEq] at hk
      subst hk
      exact ⟨rfl, by simpa using ho, hn⟩
    ·cases hk
   ·cases hk
  refine ⟨by simp [h1, hk'.1], ?_⟩
  intro x hx
  rcases List.mem_cons.1 hx with rfl | hx
  ·exact ⟨hk'.2.1, by rw [hk'.1]; exact hk'.2.2⟩
  ·exact h2 x hx
end Go.Proofs.YtocligpfmfmihaaGreatDoor
namespace Go.Proofs.YtocligpfmfmihaaGreatDoor
open Go Go.RowKit Go.Maps
def PoJ (w : World) (po : Option Addr) (o : Option J) : Prop :=
 (po = none ∧ o = none) ∨ ∃ b j, po = some ⟨b, 0, none⟩ ∧ o = some j ∧ (cJ j).length ≤ 600 ∧ RR w (fun c => c < w.heap.size) j b
theorem PoJ.kp {w w' : World} {po : Option Addr} {o : Option J} (h : PoJ w po o) (hk : Kp (fun _ => False) w w') : PoJ w' po o := by
 rcases h with h | ⟨b, j, h1, h2, h0, h3⟩
 ·exact Or.inl h
 ·exact Or.inr ⟨b, j, h1, h2, h0, h3.frame (fun k hk2 => hk.block k hk2 (by simp)) (fun k hk2 => Nat.lt_of_lt_of_le hk2 hk.size)⟩
def memF (key : Bs) : Option J → Option J | some (.obj l) => lookK key l | _ => none
theorem getJ (w : World) (po : Option Addr) (o : Option J) (h : PoJ w po o) (key : Bs) :
  Calls Tryz.prog 45 #[.pointer po, .string ⟨key.toArray⟩] w fun e w' => ∃ po', e = .returned (.pointer po') ∧ w' = w ∧ PoJ w po' (memF key o) := by
 rcases h with ⟨rfl, rfl⟩ | ⟨b, j, rfl, rfl, h0, h2⟩
 ·refine (get_no w key none (Or.inl rfl)).mono ?_
  rintro e w1 ⟨rfl, rfl⟩
  exact ⟨none, rfl, rfl, Or.inl ⟨rfl, rfl⟩⟩
 ·by_cases hj : ∃ l, j = .obj l
  ·obtain ⟨l, rfl⟩ := hj
   obtain ⟨x, K, L, hb, hK, hL, hN, hx, rfl⟩ := h2.parts
   have hxl := obj_cnt hN h0
   refine (get_c (m := x.map fun p => (p.1, p.2.2)) hb (by simpa [List.map_map, Function.comp_def] using hK) (by simpa [List.map_map, Function.comp_def] using hL) (by simp; omega) key).mono ?_
   rintro e w1 ⟨rfl, rfl⟩
   refine ⟨_, rfl, rfl, ?_⟩
   have hlo := lookK_ofL key _ hN
   rcases look_both key x with ⟨h1, h3⟩ | ⟨j, c, hm, h1, h3⟩
   ·rw [h1]
    exact Or.inl ⟨rfl, hlo.trans h3⟩
   ·rw [h1]
    have hcl := child_len (hlo.trans h3)
    exact Or.inr ⟨c, j, rfl, hlo.trans h3, by omega, hx key j c hm⟩
  ·obtain ⟨n, t, K2, L2, hb2⟩ := h2.kind
   have hk : rkind j ≠ 123 := by
    cases j with
    | obj l2 => exact absurd ⟨l2, rfl⟩ hj
    | bool b => cases b <;> simp [rkind]
    | _ => simp [rkind]
   refine (get_no w key _ (Or.inr ⟨b, rkind j, n, t, K2, L2, rfl, hb2, hk⟩)).mono ?_
   rintro e w1 ⟨rfl, rfl⟩
   refine ⟨none, rfl, rfl, Or.inl ⟨rfl, ?_⟩⟩
   cases j with
   | obj l2 => exact absurd ⟨l2, rfl⟩ hj
   | _ => rfl
theorem named_c (w : World) (s : ByteArray) : Calls Tryz.prog 139 #[.string s] w fun e w' => e = .returned (.bool (isNm s.data.toList)) ∧ w' = w := by
 have hb : isNm s.data.toList = (decide ((0 : Int) < (s.size : Int)) && decide ((s.size : Int) ≤ 20)) := by
  unfold isNm
  have : s.data.toList.length = s.size := Array.length_toList
  rw [this, Bool.eq_iff_iff]
  simp
  omega
 have HB := hide hb
 clear hb
 by_cases h0 : (0 : Int) < (s.size : Int)
 ·go_enter Tryz.func139, Tryz.ntmps139
  go_wp2
  go_ret
  exact ⟨by rw [HB.out]; simp; omega, rfl⟩
 ·go_enter Tryz.func139, Tryz.ntmps139
  go_wp2
  go_ret
  exact ⟨by rw [HB.out]; simp; omega, rfl⟩
theorem kind_str {j : J} (h : rkind j = 34) : ∃ t, j = .str t := by
 cases j with
 | str t => exact ⟨t, rfl⟩
 | bool b => cases b <;> simp [rkind] at h
 | _ => simp [rkind] at h
theorem kind_num {j : J} (h : rkind j = 35) : ∃ n, j = .num n := by
 cases j with
 | num n => exact ⟨n, rfl⟩
 | bool b => cases b <;> simp [rkind] at h
 | _ => simp [rkind] at h
set_option maxRecDepth 20000 in
theorem rname_c (w : World) (po : Option Addr) (o : Option J) (h : PoJ w po o) :
  Calls Tryz.prog 80 #[.pointer po] w fun e w' => e = .returned (.bool (nameF o).isSome) ∧ w' = w := by
 rcases h with ⟨rfl, rfl⟩ | ⟨b, j, rfl, rfl, h0, h2⟩
 ·go_enter Tryz.func80, Tryz.ntmps80
  go_wp2
  go_ret
  exact ⟨rfl, rfl⟩
 ·by_cases hk : rkind j = 34
  ·obtain ⟨t, rfl⟩ := kind_str hk
   cases h2 with
   | str t hF h =>
    obtain ⟨v0, v1, v2, v3, v4, z0, z1, z2, z3, z4, hvb⟩ := vfacts h
    have HN : Hid ((nameF (some (.str t))).isSome = isNm t) := by
     show _ = _
     unfold nameF strF
     by_cases hn : isNm t = true
     ·simp [hn]
     ·have : isNm t = false := by simpa using hn
      simp [this]
    go_enter Tryz.func80, Tryz.ntmps80
    go_wp2_with fail
    refine (named_c w ⟨t.toArray⟩).mono ?_
    rintro e w1 ⟨rfl, rfl⟩
    go_wp2
    go_ret
    exact ⟨by rw [HN.out]; rfl, rfl⟩
  ·obtain ⟨n, t, K2, L2, hb2⟩ := h2.kind
   obtain ⟨v0, v1, v2, v3, v4, z0, z1, z2, z3, z4, hvb⟩ := vfacts hb2
   have hkn : (((rkind j : Nat) : Int) == 34) = false := by simp; omega
   have HN : Hid ((nameF (some j)).isSome = false) := by
    show _ = _
    cases j with
    | str t => exact absurd rfl hk
    | _ => rfl
   clear h2 hb2 hk
   generalize rkind j = kd at *
   go_enter Tryz.func80, Tryz.ntmps80
   go_wp2
   go_ret
   exact ⟨by rw [HN.out]; rfl, rfl⟩
set_option maxRecDepth 20000 in
theorem rcount_c (w : World) (po : Option Addr) (o : Option J) (h : PoJ w po o) :
  Calls Tryz.prog 81 #[.pointer po] w fun e w' => e = .returned (.bool (momF o).isSome) ∧ w' = w := by
 rcases h with ⟨rfl, rfl⟩ | ⟨b, j, rfl, rfl, h0, h2⟩
 ·go_enter Tryz.func81, Tryz.ntmps81
  go_wp2
  go_ret
  exact ⟨rfl, rfl⟩
 ·by_cases hk : rkind j = 35
  ·obtain ⟨n, rfl⟩ := kind_num hk
   cases h2 with
   | num n hn hF h =>
    obtain ⟨v0, v1, v2, v3, v4, z0, z1, z2, z3, z4, hvb⟩ := vfacts h
    have HN : Hid ((momF (some (.num n))).isSome = decide (0 ≤ n)) := by
     show _ = _
     unfold momF
     by_cases hp : 0 ≤ n <;> simp [hp]
    go_enter Tryz.func81, Tryz.ntmps81
    go_wp2
    all_goals
     go_ret
     refine ⟨?_, rfl⟩
     rw [HN.out]
     first | rfl | (simp [*]; done) | (simp; omega)
  ·obtain ⟨n, t, K2, L2, hb2⟩ := h2.kind
   obtain ⟨v0, v1, v2, v3, v4, z0, z1, z2, z3, z4, hvb⟩ := vfacts hb2
   have hkn : (((rkind j : Nat) : Int) == 35) = false := by simp; omega
   have HN : Hid ((momF (some j)).isSome = false) := by
    show _ = _
    cases j with
    | num t => exact absurd rfl hk
    | _ => rfl
   clear h2 hb2 hk
   generalize rkind j = kd at *
   go_enter Tryz.func81, Tryz.ntmps81
   go_wp2
   go_ret
   exact ⟨by rw [HN.out]; rfl, rfl⟩
end Go.Proofs.YtocligpfmfmihaaGreatDoor
namespace Go.Proofs.YtocligpfmfmihaaGreatDoor
open Go Go.RowKit Go.Maps
theorem infoKey : (Tryz.prog.info? 35).map (fun i => (i.zero, i.size, i.bytes)) = some (some (.agg #[.string ⟨#[]⟩, .string ⟨#[]⟩, .bool false, .int .i64 0]), 4, 48) := by kernel_rfl
def kyC (k : Ky) : List Value := [.string ⟨k.id.toArray⟩, .string ⟨k.key.toArray⟩, .bool k.old, .int .i64 k.till]
theorem keysF_snoc (old : Bool) (till : Int) (l : List (Bs × J)) (id : Bs) (j : J) : keysF old till (l ++ [(id, j)]) = (keysF old till l).bind fun r => (keyF old till id j).map fun k => r ++ [k] := by
 induction l with
 | nil => cases h : keyF old till id j <;> simp [keysF, h]
 | cons p l ih =>
  obtain ⟨a, q⟩ := p
  simp only [List.cons_append, keysF, ih]
  cases keyF old till a q with
  | none => rfl
  | some k =>
   simp only [Option.bind_some]
   cases keysF old till l with
   | none => rfl
   | some r => cases keyF old till id j <;> simp
theorem keysF_app (old : Bool) (till : Int) (l m : List (Bs × J)) (h : keysF old till l = none) : keysF old till (l ++ m) = none := by
 induction l with
 | nil => cases h
 | cons p l ih =>
  obtain ⟨a, q⟩ := p
  simp only [List.cons_append, keysF] at h ⊢
  cases hk : keyF old till a q with
  | none => rfl
  | some k =>
   rw [hk] at h
   simp only [Option.bind_some, Option.map_eq_none_iff] at h ⊢
   exact ih h
theorem kyC_len (l : List Ky) : (l.flatMap kyC).length = l.length * 4 := by
 induction l with
 | nil => rfl
 | cons k l ih =>
  simp only [List.flatMap_cons, List.length_append, List.length_cons, ih, kyC, List.length_nil]
  omega
theorem keyF_parts (old : Bool) (till : Int) (id : Bs) (j : J) : keyF old till id j =
  if isNm id = true then (strF (memF kKey (some j))).bind fun k => if old then (momF (memF kExp (some j))).map fun t => ⟨id, k, true, t⟩ else some ⟨id, k, false, till⟩ else none := by
 unfold keyF
 by_cases h : isNm id = true
 ·rw [if_pos h, if_pos h]
  cases j with
  | obj m => rfl
  | _ => rfl
 ·rw [if_neg h, if_neg h]
end Go.Proofs.YtocligpfmfmihaaGreatDoor
namespace Go.Proofs.YtocligpfmfmihaaGreatDoor
open Go Go.RowKit Go.Maps
def KsR (w : World) (o : Option (List Ky)) (e : Ending) (w' : World) : Prop :=
 Kp (fun _ => False) w w' ∧ match o with
 | none => e = .returned (.tuple #[.slice none 0 0, .bool false])
 | some ks => ∃ v, e = .returned (.tuple #[v, .bool true]) ∧ w'.ownsRow w.heap.size 35 4 v ks.length (ks.flatMap kyC)
theorem ksR_none {w w' : World} {o : Option (List Ky)} (ho : o = none) (hk : Kp (fun _ => False) w w') : KsR w o (.returned (.tuple #[.slice none 0 0, .bool false])) w' := by
 subst ho
 exact ⟨hk, rfl⟩
set_option maxRecDepth 20000 in
set_option maxHeartbeats 4000000 in
theorem rkeys_c (w : World) (b : Nat) (x : List (Bs × J × Nat)) (K L : Value) (h : w.heap[b]? = some (vCells 123 0 [] K L))
  (hK : w.ownsRow 0 9 1 K x.length (x.map fun p => .string ⟨p.1.toArray⟩)) (hL : w.ownsRow 0 66 1 L x.length (x.map fun p => ptr p.2.2))
  (hx : ∀ a j c, (a, j, c) ∈ x → (cJ j).length ≤ 600 ∧ RR w (fun c => c < w.heap.size) j c) (hxl : x.length ≤ 700) (old : Bool) (till : Int) :
  Calls Tryz.prog 82 #[.pointer (some ⟨b, 0, none⟩), .bool old, .int .i64 till] w fun e w' => KsR w (keysF old till (x.map fun p => (p.1, p.2.1))) e w' := by
 obtain ⟨i0, hi, hz0, hz1, hz2⟩ := info_parts infoKey
 obtain ⟨ka, kc, rfl⟩ := own_slice hK
 obtain ⟨la, lc, rfl⟩ := own_slice hL
 have hck : ∀ i p, x[i]? = some p → ∃ g, ka = some ⟨g, 0, none⟩ ∧ g < w.heap.size ∧ w.cell? ⟨g, i, none⟩ = some (.string ⟨p.1.toArray⟩) := by
  intro i p hp
  have hlt := (List.getElem?_eq_some_iff.1 hp).1
  obtain ⟨_, ⟨e, e0⟩ | ⟨g, cap, cur, e, _⟩⟩ := id hK
  ·omega
  ·injection e with e1 e2 e3
   subst e1
   exact ⟨g, rfl, (hK.lt g rfl).2, own_cell hK i _ (by rw [List.getElem?_map, hp]; rfl)⟩
 have hcl : ∀ i p, x[i]? = some p → ∃ g, la = some ⟨g, 0, none⟩ ∧ g < w.heap.size ∧ w.cell? ⟨g, i, none⟩ = some (.pointer (some ⟨p.2.2, 0, none⟩)) := by
  intro i p hp
  have hlt := (List.getElem?_eq_some_iff.1 hp).1
  obtain ⟨_, ⟨e, e0⟩ | ⟨g, cap, cur, e, _⟩⟩ := id hL
  ·omega
  ·injection e with e1 e2 e3
   subst e1
   exact ⟨g, rfl, (hL.lt g rfl).2, own_cell hL i _ (by rw [List.getElem?_map, hp]; rfl)⟩
 have CK := hide (And.intro hck (And.intro hcl hx))
 clear hck hcl hK hL hx
 go_enter Tryz.func82, Tryz.ntmps82
 go_wp2_with fail
 go_loopg [8, 9] x.length (fun gg a bb wr => ∃ (i : Nat) (ks : List Ky), gg = x.length - i ∧ i ≤ x.length ∧ bb = .int .i64 (i : Int) ∧ Kp (fun _ => False) w wr ∧ ks.length = i ∧ keysF old till ((x.take i).map fun p => (p.1, p.2.1)) = some ks ∧ wr.ownsRow w.heap.size 35 4 a i (ks.flatMap kyC))
 case atStart => exact ⟨0, [], rfl, by omega, rfl, Kp.refl _ _, rfl, rfl, World.ownsRow_nil _ _ _ _⟩
 case round =>
  obtain ⟨i, ks, hg, hin, rfl, K1, hkl, hks, hrow⟩ := hrel
  have HG := hide (And.intro hg (And.intro hkl hks))
  clear hg hkl hks
  obtain ⟨o0, o1, o2, o3, o4, p0, p1, p2, p3, p4, hob⟩ := vfacts (vkp h K1)
  by_cases hlt : i < x.length
  ·have hlt' : (i : Int) < (x.length : Int) := by omega
   obtain ⟨p, hp⟩ : ∃ p, x[i]? = some p := ⟨x[i], List.getElem?_eq_getElem hlt⟩
   obtain ⟨kg, rfl, hkg, ck⟩ := CK.out.1 i p hp
   obtain ⟨lg, rfl, hlg, cl⟩ := CK.out.2.1 i p hp
   obtain ⟨hjl, hrr⟩ := CK.out.2.2 p.1 p.2.1 p.2.2 (List.mem_of_getElem? hp)
   have ck1 := (K1.cell (p := ⟨kg, i, none⟩) hkg (by simp)).trans ck
   have cl1 := (K1.cell (p := ⟨lg, i, none⟩) hlg (by simp)).trans cl
   have htk : (x.take (i + 1)).map (fun p => (p.1, p.2.1)) = (x.take i).map (fun p => (p.1, p.2.1)) ++ [(p.1, p.2.1)] := by
    rw [List.take_succ_eq_append_getElem hlt, (List.getElem?_eq_some_iff.1 hp).2, List.map_append]
    rfl
   have hnone : keyF old till p.1 p.2.1 = none → keysF old till (x.map fun p => (p.1, p.2.1)) = none := by
    intro hk
    have h1 : x.map (fun p => (p.1, p.2.1)) = (x.take (i + 1)).map (fun p => (p.1, p.2.1)) ++ (x.drop (i + 1)).map (fun p => (p.1, p.2.1)) := by rw [← List.map_append, List.take_append_drop]
    rw [h1]
    apply keysF_app
    rw [htk, keysF_snoc, hk]
    cases keysF old till ((x.take i).map fun p => (p.1, p.2.1)) <;> rfl
   have HP := hide (And.intro htk hnone)
   have PJ : PoJ wr (some ⟨p.2.2, 0, none⟩) (some p.2.1) := PoJ.kp (Or.inr ⟨p.2.2, p.2.1, rfl, rfl, hjl, hrr⟩) K1
   clear hp htk hnone hrr ck cl
   have hkp := keyF_parts old till p.1 p.2.1
   have HKP := hide hkp
   clear hkp
   go_wp2_with fail
   refine (getJ wr _ _ PJ kKey).mono ?_
   rintro e w2 ⟨pk, rfl, rfl, PK⟩
   go_wp2_with fail
   refine (getJ w2 _ _ PJ kExp).mono ?_
   rintro e w3 ⟨px, rfl, rfl, PX⟩
   generalize memF kKey (some p.2.1) = ok at *
   generalize memF kExp (some p.2.1) = ox at *
   go_wp2_with fail
   refine (named_c w3 ⟨p.1.toArray⟩).mono ?_
   rintro e w4 ⟨rfl, rfl⟩
   go_wp2_with fail
   refine (rcount_c w4 _ _ PX).mono ?_
   rintro e w5 ⟨rfl, rfl⟩
   simp only []
   cases hnm : isNm p.1 with
   | false =>
    have HN := hide (HP.out.2 (by rw [HKP.out, hnm]; rfl))
    go_wp2
    go_ret2
    exact ksR_none HN.out K1
   | true =>
    rcases PK with ⟨rfl, rfl⟩ | ⟨kb, jk, rfl, rfl, hkj, hrk⟩
    ·have HN := hide (HP.out.2 (by rw [HKP.out, hnm]; rfl))
     go_wp2
     go_ret2
     exact ksR_none HN.out K1
    ·by_cases hkd : rkind jk = 34
     ·obtain ⟨t, rfl⟩ := kind_str hkd
      clear hkd
      cases hrk with
      | str t hF hkb =>
       obtain ⟨k0, k1, k2, k3, k4, kz0, kz1, kz2, kz3, kz4, hkbl⟩ := vfacts hkb
       cases old with
       | false =>
        have HK2 : Hid (keyF false till p.1 p.2.1 = some ⟨p.1, t, false, till⟩) := by
         show _ = _
         rw [HKP.out, hnm]
         rfl
        generalize (momF ox).isSome = cb
        have hkg5 : kg < w5.heap.size := Nat.lt_of_lt_of_le hkg K1.size
        go_upto_region 12 with fail
        go_region
        have K6 : Kp (fun _ => False) w (w5.alloc (.cells #[.string ⟨p.1.toArray⟩, .string ⟨t.toArray⟩, .bool false, .int .i64 till] 35)) := K1.alloc _
        have r6 := hrow.alloc (.cells #[.string ⟨p.1.toArray⟩, .string ⟨t.toArray⟩, .bool false, .int .i64 till] 35)
        have hs6 := K1.size
        go_wp2_with (at_builtin; (refine wpList_append_own_at _ rfl _ _ 28 rfl w.heap.size 35 i0 (.agg #[.string ⟨#[]⟩, .string ⟨#[]⟩, .bool false, .int .i64 0]) 4 48 Tryz.underlying28 hi hz0 hz1 hz2 rfl (by decide) _ _ _ rfl (by exact World.ownsRow.alloc r6 _) ⟨w5.heap.size + 1, 0, none⟩ 1 1 (kyC ⟨p.1, t, false, till⟩) rfl rfl ?c1 (by intro u hu; simp [kyC] at hu; rcases hu with rfl | rfl | rfl | rfl <;> rfl) (by unfold maxLen; omega) (by omega) (by simp; omega) ?_))
        case c1 =>
         intro j u hj
         rcases j with _ | _ | _ | _ | j
         all_goals simp [kyC] at hj
         all_goals subst hj
         all_goals simp [Addr.add]
        intro v' w6 y1 y2 _ y3
        have K7 : Kp (fun _ => False) w w6 := ((K6.drew).alloc _).grown y2 (fun k hk hlt => by have := (hrow.lt k hk).1; omega)
        have R7 := hide y1
        clear y1 y2 y3 r6 K6
        go_wp2
        go_roundg (x.length - (i + 1))
        case measure => rw [HG.out.1]; omega
        case rel =>
         refine ⟨i + 1, ks ++ [⟨p.1, t, false, till⟩], rfl, by omega, int_i64 (by omega), K7, by simp [HG.out.2.1], ?_, ?_⟩
         ·rw [HP.out.1, keysF_snoc, HG.out.2.2, HK2.out]
          rfl
         ·rw [List.flatMap_append]
          have e9 : List.flatMap kyC [⟨p.1, t, false, till⟩] = kyC ⟨p.1, t, false, till⟩ := by simp
          rw [e9]
          exact R7.out
       | true =>
        cases hmo : momF ox with
        | none =>
         have HN := hide (HP.out.2 (by rw [HKP.out, hnm, hmo]; rfl))
         simp only [Option.isSome_none]
         go_wp2
         go_ret2
         exact ksR_none HN.out K1
        | some n =>
         have HK2 : Hid (keyF true till p.1 p.2.1 = some ⟨p.1, t, true, n⟩) := by
          show _ = _
          rw [HKP.out, hnm, hmo]
          rfl
         simp only [Option.isSome_some]
         rcases PX with ⟨rfl, rfl⟩ | ⟨xb, jx, rfl, rfl, hxj, hrx⟩
         ·cases hmo
         ·obtain ⟨rfl, hn0⟩ : jx = .num n ∧ 0 ≤ n := by
           unfold momF at hmo
           split at hmo
           ·rename_i m hm
            injection hm with hm
            subst hm
            split at hmo
            ·injection hmo with hmo
             subst hmo
             exact ⟨rfl, by assumption⟩
            ·cases hmo
           ·cases hmo
          clear hmo
          cases hrx with
          | num n hn hF2 hxb =>
           obtain ⟨x0, x1, x2, x3, x4, xz0, xz1, xz2, xz3, xz4, hxbl⟩ := vfacts hxb
           have hkg5 : kg < w5.heap.size := Nat.lt_of_lt_of_le hkg K1.size
           go_upto_region 12 with fail
           go_region
           have K6 : Kp (fun _ => False) w (w5.alloc (.cells #[.string ⟨p.1.toArray⟩, .string ⟨t.toArray⟩, .bool true, .int .i64 n] 35)) := K1.alloc _
           have r6 := hrow.alloc (.cells #[.string ⟨p.1.toArray⟩, .string ⟨t.toArray⟩, .bool true, .int .i64 n] 35)
           have hs6 := K1.size
           go_wp2_with (at_builtin; (refine wpList_append_own_at _ rfl _ _ 28 rfl w.heap.size 35 i0 (.agg #[.string ⟨#[]⟩, .string ⟨#[]⟩, .bool false, .int .i64 0]) 4 48 Tryz.underlying28 hi hz0 hz1 hz2 rfl (by decide) _ _ _ rfl (by exact World.ownsRow.alloc r6 _) ⟨w5.heap.size + 1, 0, none⟩ 1 1 (kyC ⟨p.1, t, true, n⟩) rfl rfl ?c1 (by intro u hu; simp [kyC] at hu; rcases hu with rfl | rfl | rfl | rfl <;> rfl) (by unfold maxLen; omega) (by omega) (by simp; omega) ?_))
           case c1 =>
            intro j u hj
            rcases j with _ | _ | _ | _ | j
            all_goals simp [kyC] at hj
            all_goals subst hj
            all_goals simp
           intro v' w6 y1 y2 _ y3
           have K7 : Kp (fun _ => False) w w6 := ((K6.drew).alloc _).grown y2 (fun k hk hlt => by have := (hrow.lt k hk).1; omega)
           have R7 := hide y1
           clear y1 y2 y3 r6 K6
           go_wp2
           go_roundg (x.length - (i + 1))
           case measure => rw [HG.out.1]; omega
           case rel =>
            refine ⟨i + 1, ks ++ [⟨p.1, t, true, n⟩], rfl, by omega, int_i64 (by omega), K7, by simp [HG.out.2.1], ?_, ?_⟩
            ·rw [HP.out.1, keysF_snoc, HG.out.2.2, HK2.out]
             rfl
            ·rw [List.flatMap_append]
             have e9 : List.flatMap kyC [⟨p.1, t, true, n⟩] = kyC ⟨p.1, t, true, n⟩ := by simp
             rw [e9]
             exact R7.out
     ·obtain ⟨n2, t2, K2, L2, hb2⟩ := hrk.kind
      obtain ⟨k0, k1, k2, k3, k4, kz0, kz1, kz2, kz3, kz4, hkbl⟩ := vfacts hb2
      have hkn : (((rkind jk : Nat) : Int) != 34) = true := by simp; omega
      have hsn : strF (some jk) = none := by
       cases jk with
       | str t => exact absurd rfl hkd
       | _ => rfl
      have HN := hide (HP.out.2 (by rw [HKP.out, hnm, hsn]; rfl))
      clear hrk hb2 hkd hsn
      generalize rkind jk = kd at *
      go_wp2
      go_ret2
      exact ksR_none HN.out K1
  ·have hlt' : ¬ (i : Int) < (x.length : Int) := by omega
   have HX : Hid (keysF old till (x.map fun p => (p.1, p.2.1)) = some ks) := by
    have := HG.out.2.2
    rw [List.take_of_length_le (by omega)] at this
    exact this
   go_wp2
   go_ret2
   refine ⟨K1, ?_⟩
   rw [HX.out]
   exact ⟨_, rfl, by rw [HG.out.2.1]; exact hrow⟩
end Go.Proofs.YtocligpfmfmihaaGreatDoor

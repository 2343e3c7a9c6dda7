import Derived.Test.YtocligpfmfmihabGreatDoorPr5
import Derived.Test.YtocligpfmfmihabGreatDoorRef27G
import Derived.Shelf.SlSortCmp.InsertionK
namespace Go.Proofs.YtocligpfmfmihabGreatDoor
open Go Go.RowKit Go.Maps Go.WideMaps Go.Sort Go.Shelf
attribute [local go_sem] Oper.semAt_some

/-- The keys in use. -/
def inF (u : Int) (l : List (Bs × J)) : Option (List Ky) := (objF (lookK kVer l)).bind fun m => if 1 ≤ m.length ∧ m.length ≤ 4 then keysF false u m else none
theorem oldF_eq (l : List (Bs × J)) : oldF l = match lookK kOld l with | none => some [] | some j => (objF (some j)).bind (keysF true 0) := by
  unfold oldF
  cases h : lookK kOld l with
  | none => rfl
  | some j => cases j <;> rfl
theorem docF_eq (l : List (Bs × J)) : docF l = (nameF (lookK kSrv l)).bind fun s => (momF (lookK kUnt l)).bind fun u => (inF u l).bind fun a => (oldF l).bind fun b => (joinF a b).map fun ks => (s, u, ks) := by
  unfold docF inF
  cases nameF (lookK kSrv l) with
  | none => rfl
  | some s =>
    cases momF (lookK kUnt l) with
    | none => rfl
    | some u =>
      simp only [Option.bind_some]
      cases lookK kVer l with
      | none => rfl
      | some j =>
        cases j with
        | obj m =>
          simp only [objF, Option.bind_some]
          by_cases h : 1 ≤ m.length ∧ m.length ≤ 4
          · rw [if_pos h, if_pos h]
          · rw [if_neg h, if_neg h]; rfl
        | _ => rfl
theorem one1 (W : World) (hN : NG2 W) (ub : Nat) (till : Int) : OneC W 136 #[.pointer (some ⟨ub, 0, none⟩)] (fun w => w.heap[ub]? = some (.cells #[.int .i64 till] 2)) false till :=
  fun w m b id hW hP ho => inUse1_c W hN w hW m b ub id till ho hP
theorem one2 (W : World) (hN : NG2 W) : OneC W 137 #[] (fun _ => True) true 0 :=
  fun w m b id hW _ ho => old1_c W hN w hW m b id 0 ho
theorem ku_new {W w0 w : World} {s : ByteArray} {ev : Value} (hk : Kp (fun _ => False) w0 w) (h : Ech W w ev) : KuR W w0 none (.returned (.tuple #[.slice none 0 0, .iface 188 (.pointer (some ⟨w.heap.size, 0, none⟩))])) (w.alloc (.cells #[.string s, ev] 190)).drew :=
  ⟨(hk.alloc _).drew, _, rfl, ech_box h⟩
set_option maxRecDepth 20000 in
set_option maxHeartbeats 4000000 in
theorem keysInUse_c (W : World) (hN : NG2 W) (w : World) (hW : Below W.heap.size W w) (l : List (Bs × J)) (b : Nat) (till : Int) (ho : Oz w l b)
    (hch : ∀ m, objF (lookK kVer l) = some m → Srt m ∧ m.length ≤ 1000 ∧ ∀ p ∈ m, p.1.length ≤ 1000) :
    Calls Tryz.prog 91 #[.map (some b), .int .i64 till] w fun e w' => KuR W w (inF till l) e w' := by
  obtain ⟨a, ha, hp⟩ := hN.sml 13 (by simp)
  have K0 : Kp (fun _ => False) w (w.alloc (.cells #[.int .i64 till] 2)) := (Kp.refl _ _).alloc _
  have U0 := heap_alloc_new w (.cells #[.int .i64 till] 2)
  have HU := hide (keysUnder_c W hN _ (below_kp hW K0) l b kVer (by decide) (ho.up K0) 136 #[.pointer (some ⟨w.heap.size, 0, none⟩)] (fun w' => w'.heap[w.heap.size]? = some (.cells #[.int .i64 till] 2)) false till (one1 W hN w.heap.size till) (enters_of Tryz.func136 (by kernel_rfl) rfl) (fun _ _ h k => k.heap h) U0 hch)
  clear ho U0
  go_enter Tryz.func91, Tryz.ntmps91
  go_wp2_with fail
  generalize (w.alloc (.cells #[.int .i64 till] 2)) = w0 at *
  refine HU.out.mono ?_
  rintro e w1 ⟨K1, h1⟩
  have hc := Below.cl (below_kp hW (K0.trans K1)) ha
  have HE : Hid (Ech W w1 (errV a)) := Ech.base a hp
  unfold errV at hc HE
  have HK := hide (K0.trans K1)
  have hs0 := K0.size
  clear HU K1 ha hp hch
  have hin : inF till l = (objF (lookK kVer l)).bind fun m => if 1 ≤ m.length ∧ m.length ≤ 4 then keysF false till m else none := rfl
  cases hof : objF (lookK kVer l) with
  | none =>
    rw [hof] at h1 hin
    obtain ⟨ev, rfl, he⟩ := h1
    obtain ⟨tt, u, rfl⟩ := he.iface
    have HE2 := hide (And.intro he hin)
    clear he hof hin
    go_wp2
    go_ret2
    rw [HE2.out.2]
    exact ⟨HK.out, _, rfl, HE2.out.1⟩
  | some m =>
    rw [hof] at h1 hin
    replace h1 : match keysF false till m with | some ks => ∃ v, e = .returned (.tuple #[v, .nilIface]) ∧ w1.ownsRow w0.heap.size 148 4 v ks.length (ks.flatMap kyC) | none => ∃ ev, e = .returned (.tuple #[.slice none 0 0, ev]) ∧ Ech W w1 ev := h1
    replace hin : inF till l = if 1 ≤ m.length ∧ m.length ≤ 4 then keysF false till m else none := hin
    cases hkf : keysF false till m with
    | none =>
      rw [hkf] at h1 hin
      obtain ⟨ev, rfl, he⟩ := h1
      obtain ⟨tt, u, rfl⟩ := he.iface
      have HE2 := hide (And.intro he (hin.trans (ite_self _)))
      clear he hof hin hkf
      go_wp2
      go_ret2
      rw [HE2.out.2]
      exact ⟨HK.out, _, rfl, HE2.out.1⟩
    | some ks =>
      rw [hkf] at h1 hin
      obtain ⟨v, rfl, row⟩ := h1
      have hl : ks.length = m.length := by
        have := congrArg List.length (keysF_ids hkf).1
        simpa using this
      rw [← hl] at hin
      obtain ⟨va, vc, rfl, _⟩ := own_slice4 row
      have HR := hide row
      clear row hof hkf hl
      by_cases g1 : 1 ≤ ks.length
      · have t1 : decide ((ks.length : Int) < 1) = false := by simp; omega
        by_cases g2 : ks.length ≤ 4
        · have t2 : decide ((ks.length : Int) > 4) = false := by simp; omega
          rw [if_pos ⟨g1, g2⟩] at hin
          have HI := hide hin
          clear hin
          go_wp2
          go_ret2
          rw [HI.out]
          exact ⟨HK.out, _, rfl, own_base (by omega) HR.out⟩
        · have t2 : decide ((ks.length : Int) > 4) = true := by simp; omega
          rw [if_neg (fun h => g2 h.2)] at hin
          have HI := hide hin
          clear hin
          go_wp2
          go_region
          go_wp2
          go_ret2
          rw [HI.out]
          exact ku_new HK.out HE.out
      · have t1 : decide ((ks.length : Int) < 1) = true := by simp; omega
        rw [if_neg (fun h => g1 h.1)] at hin
        have HI := hide hin
        clear hin
        go_wp2
        go_region
        go_wp2
        go_ret2
        rw [HI.out]
        exact ku_new HK.out HE.out
end Go.Proofs.YtocligpfmfmihabGreatDoor
namespace Go.Proofs.YtocligpfmfmihabGreatDoor
open Go Go.RowKit Go.Maps Go.WideMaps Go.Sort Go.Shelf
attribute [local go_sem] Oper.semAt_some

theorem ud_ok (w : World) (l : List (Bs × J)) (b : Nat) (k : Bs) (hk : k.length ≤ 139000000000000) (ho : Oz w l b) :
    ∃ v, (Instr.lookup 76 (.map (some b)) (.string ⟨k.toArray⟩) true).run Tryz.prog w = .ok (.tuple #[v, .bool (lookK k l).isSome]) w := by
  obtain ⟨b', m, e, hFb, hown, hrep⟩ := ho.shape
  cases e
  obtain ⟨lv, lps, hlk, hlr⟩ := hown.look_ok keyed Tryz.underlying76 (zeroV w) (R := Rv) (zd := .held .nilIface) (zp := []) rfl (key_mk2 hk)
  refine ⟨lv, ?_⟩
  rw [dm_has] at hlk
  rcases Repm.look k l m hrep with ⟨e1, e2⟩ | ⟨v, x, e1, e2, hx⟩
  · rw [e1] at hlk
    rw [e2]
    exact hlk
  · rw [e1] at hlk
    rw [e2]
    exact hlk
set_option maxRecDepth 20000 in
set_option maxHeartbeats 4000000 in
theorem oldKeys_c (W : World) (hN : NG2 W) (w : World) (hW : Below W.heap.size W w) (l : List (Bs × J)) (b : Nat) (ho : Oz w l b)
    (hch : ∀ m, objF (lookK kOld l) = some m → Srt m ∧ m.length ≤ 1000 ∧ ∀ p ∈ m, p.1.length ≤ 1000) :
    Calls Tryz.prog 92 #[.map (some b)] w fun e w' => KuR W w (oldF l) e w' := by
  obtain ⟨v, hlk⟩ := ud_ok w l b kOld (by decide) ho
  have HU := hide (keysUnder_c W hN w hW l b kOld (by decide) ho 137 #[] (fun _ => True) true 0 (one2 W hN) (enters_of Tryz.func137 (by kernel_rfl) rfl) (fun _ _ _ _ => trivial) trivial hch)
  have hof := oldF_eq l
  clear ho hch
  cases hl : lookK kOld l with
  | none =>
    rw [hl] at hlk hof
    replace hlk : (Instr.lookup 76 (.map (some b)) (.string ⟨#[111, 108, 100, 95, 118, 101, 114, 105, 102, 121, 95, 107, 101, 121, 115]⟩) true).run Tryz.prog w = .ok (.tuple #[v, .bool false]) w := hlk
    have HO := hide hof
    clear hof hl
    go_enter Tryz.func92, Tryz.ntmps92
    go_wp2
    go_ret2
    rw [HO.out]
    exact ⟨Kp.refl _ _, _, rfl, World.ownsRow_nil _ _ _ _⟩
  | some j =>
    rw [hl] at hlk hof HU
    replace hlk : (Instr.lookup 76 (.map (some b)) (.string ⟨#[111, 108, 100, 95, 118, 101, 114, 105, 102, 121, 95, 107, 101, 121, 115]⟩) true).run Tryz.prog w = .ok (.tuple #[v, .bool true]) w := hlk
    have HO := hide hof
    clear hof hl
    go_enter Tryz.func92, Tryz.ntmps92
    go_wp2_with fail
    refine HU.out.mono ?_
    rintro e w1 ⟨K1, h1⟩
    have HK := hide K1
    clear HU K1
    cases hb : (objF (some j)).bind (keysF true 0) with
    | none =>
      rw [hb] at h1
      obtain ⟨ev, rfl, he⟩ := h1
      obtain ⟨tt, u, rfl⟩ := he.iface
      have HE2 := hide (And.intro he hb)
      clear he hb
      go_wp2
      go_ret2
      rw [HO.out]
      show KuR W w ((objF (some j)).bind (keysF true 0)) _ _
      rw [HE2.out.2]
      exact ⟨HK.out, _, rfl, HE2.out.1⟩
    | some ks =>
      rw [hb] at h1
      obtain ⟨v, rfl, row⟩ := h1
      have HR := hide (And.intro row hb)
      clear row hb
      go_wp2
      go_ret2
      rw [HO.out]
      show KuR W w ((objF (some j)).bind (keysF true 0)) _ _
      rw [HR.out.2]
      exact ⟨HK.out, _, rfl, HR.out.1⟩
end Go.Proofs.YtocligpfmfmihabGreatDoor
namespace Go.Proofs.YtocligpfmfmihabGreatDoor
open Go Go.RowKit Go.Sort Go.Shelf

/-- A row of keys behind the sort. -/
theorem flatK_list (d : Array Ky) [Inhabited Ky] : (flatK kyC 4 d).toList = d.toList.flatMap kyC := by
  refine List.ext_getElem? ?_
  intro t
  by_cases ht : t < d.size * 4
  · have h1 : (flatK kyC 4 d).toList[t]? = some ((kyC d[t / 4]!)[t % 4]!) := by
      rw [Array.getElem?_toList, Array.getElem?_eq_getElem (by simpa using ht)]
      simp [flatK]
    have hq : t / 4 < d.size := by omega
    have h2 := flat_at d.toList (t / 4) d[t / 4]! (by simp [hq]) (t % 4) (by omega)
    rw [show t / 4 * 4 + t % 4 = t by omega] at h2
    rw [h1, h2]
    have : t % 4 < (kyC d[t / 4]!).length := by simp [kyC]; omega
    rw [List.getElem?_eq_getElem this]; simp [this]
  · rw [List.getElem?_eq_none (by simp; omega), List.getElem?_eq_none (by rw [kyC_len]; simp; omega)]
theorem sort_heap {α : Type} [Inhabited α] (enc : α → List Value) (k : Nat) (w : World) (g m : Nat) (d : Array α) (os : Array Obj) (j : Nat) (hj : j < w.heap.size) (hne : j ≠ g) : (sortWorldK enc k w g 0 m d os).heap[j]? = w.heap[j]? := by
  unfold sortWorldK grow putRowK putRow mapBlock
  simp only [heap_ahead]
  rw [Array.getElem?_append_left (by simpa using hj)]
  simp [Array.getElem?_modify, Ne.symm hne]
theorem sort_kp {α : Type} [Inhabited α] (enc : α → List Value) (k : Nat) (w : World) (g m : Nat) (d : Array α) (os : Array Obj) : Kp (· = g) w (sortWorldK enc k w g 0 m d os) := by
  refine ⟨rfl, rfl, rfl, ?_, fun i hi hne => sort_heap enc k w g m d os i hi hne⟩
  unfold sortWorldK grow putRowK putRow mapBlock
  simp
theorem sort_row {w : World} {B g n cap : Nat} {xs : List Value} (m : Nat) (d : Array Ky) [Inhabited Ky] (os : Array Obj) (h : w.ownsRow B 148 4 (.slice (some ⟨g, 0, none⟩) n cap) n xs) (hd : d.size = n) :
    (sortWorldK kyC 4 w g 0 m d os).ownsRow B 148 4 (.slice (some ⟨g, 0, none⟩) n cap) n (d.toList.flatMap kyC) := by
  refine ⟨by rw [kyC_len]; simp [hd], Or.inr ?_⟩
  rcases h.2 with ⟨e1, _⟩ | ⟨g', cap', cur, e1, hB, hh, hc1, hc2, hc3, hc4⟩
  · injection e1 with e1; cases e1
  · injection e1 with e1 _ e3
    injection e1 with e1
    injection e1 with e1
    subst e1 e3
    have hg := lt_heap hh
    refine ⟨g, cap, putCells id 0 (flatK kyC 4 d) cur, rfl, hB, ?_, hc1, hc2, by simpa [putCells] using hc3, ?_⟩
    · unfold sortWorldK grow putRowK putRow mapBlock
      simp only [heap_ahead]
      rw [Array.getElem?_append_left (by simpa using hg)]
      simp [Array.getElem?_modify, hh, onCells]
    · rw [← flatK_list]
      refine List.ext_getElem? ?_
      intro t
      rw [List.getElem?_take]
      by_cases ht : t < n * 4
      · rw [if_pos ht]
        have hsz : (flatK kyC 4 d).size = n * 4 := by simp [hd]
        have htc : t < cur.size := by rw [hc3]; exact Nat.lt_of_lt_of_le ht (Nat.mul_le_mul_right 4 hc1)
        simp only [Array.getElem?_toList, putCells, Array.getElem?_mapIdx]
        rw [Array.getElem?_eq_getElem htc, Array.getElem?_eq_getElem (by rw [hsz]; exact ht)]
        simp [hsz, ht]
      · rw [if_neg ht, List.getElem?_eq_none (by simp [hd]; omega)]
theorem row_holds {w : World} {B g n cap : Nat} (d : Array Ky) [Inhabited Ky] (h : w.ownsRow B 148 4 (.slice (some ⟨g, 0, none⟩) n cap) n (d.toList.flatMap kyC)) (hd : d.size = n) : HoldsK kyC 4 w g 0 d := by
  rcases id h.2 with ⟨e1, _⟩ | ⟨g', cap', cur, e1, hB, hh, hc1, hc2, hc3, hc4⟩
  · injection e1 with e1; cases e1
  · injection e1 with e1 _ e3
    injection e1 with e1
    injection e1 with e1
    subst e1
    intro j hj
    have hj4 : j < n * 4 := by simpa [hd] using hj
    have h1 := h.cells (g := g) rfl j ((flatK kyC 4 d)[j]!) (by
      rw [← flatK_list, Array.getElem?_toList, getElem!_def, Array.getElem?_eq_getElem hj])
    refine ⟨?_, ?_⟩
    · unfold Addr.add at h1
      by_cases h0 : j = 0
      · subst h0; simpa using h1
      · simpa [h0] using h1
    simp [World.frozen?, hh]
theorem cmp_lt (a b : Bs) : Lib.compareBytes a b < 0 ↔ a < b := by
  induction a generalizing b with
  | nil => cases b <;> simp [Lib.compareBytes]
  | cons x a ih =>
    cases b with
    | nil => simp [Lib.compareBytes]
    | cons y b =>
      simp only [Lib.compareBytes, List.cons_lt_cons_iff]
      by_cases h1 : x < y
      · simp [h1]
      · by_cases h2 : y < x
        · have h3 : x ≠ y := by rintro rfl; exact h1 h2
          simp [h1, h2, h3]
        · have h3 : x = y := UInt8.le_antisymm (UInt8.not_lt.1 h2) (UInt8.not_lt.1 h1)
          subst h3
          simp [h1, ih]
def kyLt (x y : Ky) : Int := Lib.compareBytes x.id y.id
theorem ky_swo : SWO (ltOf kyLt) := by
  refine ⟨?_, ?_, ?_⟩
  · intro x
    simp only [ltOf, kyLt, cmp_lt, decide_eq_false_iff_not]
    exact lt_irr _
  · intro x y z h1 h2
    simp only [ltOf, kyLt, cmp_lt, decide_eq_true_eq] at *
    exact List.lt_trans h1 h2
  · intro x y z h1 h2
    simp only [ltOf, kyLt, cmp_lt, decide_eq_false_iff_not] at *
    rw [List.not_lt] at *
    exact List.le_trans h2 h1
theorem join_yes {a b L : List Ky} (hp : L.Perm (a ++ b)) (hs : L.Pairwise fun x y => x.id < y.id) : joinF a b = some L := by
  have hn : (L.map (·.id)).Nodup := by
    unfold List.Nodup
    rw [List.pairwise_map]
    exact hs.imp fun {x y} h e => by rw [e] at h; exact lt_irr _ h
  have hn2 : ((a ++ b).map (·.id)).Nodup := (hp.map (·.id)).nodup_iff.1 hn
  unfold joinF
  rw [if_pos hn2]
  have e1 : ofL ((a ++ b).map fun k => (k.id, k)) = ofL (L.map fun k => (k.id, k)) := ofL_perm (hp.symm.map _) (by
    unfold Nod
    rw [List.map_map]
    exact hn2)
  have hsr : Srt (L.map fun k => (k.id, k)) := by
    unfold Srt
    rw [List.pairwise_map]
    exact hs
  rw [e1, ofL_srt _ hsr, List.map_map]
  congr 1
  exact List.map_id' L
theorem join_no {a b L : List Ky} (hp : L.Perm (a ++ b)) {i j : Nat} {x y : Ky} (hij : i < j) (hi : L[i]? = some x) (hj : L[j]? = some y) (he : x.id = y.id) : joinF a b = none := by
  unfold joinF
  rw [if_neg ?_]
  intro hn
  have hn2 : (L.map (·.id)).Nodup := (hp.map (·.id)).nodup_iff.2 hn
  have h1 := List.pairwise_iff_getElem.1 hn2
  have hli : i < L.length := by
    rcases Nat.lt_or_ge i L.length with h | h
    · exact h
    · rw [List.getElem?_eq_none h] at hi; cases hi
  have hlj : j < L.length := by
    rcases Nat.lt_or_ge j L.length with h | h
    · exact h
    · rw [List.getElem?_eq_none h] at hj; cases hj
  rw [List.getElem?_eq_getElem hli] at hi
  rw [List.getElem?_eq_getElem hlj] at hj
  injection hi with hi
  injection hj with hj
  have := h1 i j (by simpa using hli) (by simpa using hlj) hij
  simp only [List.getElem_map, hi, hj] at this
  exact this he
theorem strict_of {L : List Ky} (hs : ∀ (i j : Nat), i < j → ∀ (x y : Ky), L[i]? = some x → L[j]? = some y → ¬ y.id < x.id) (ha : ∀ (i : Nat) (x y : Ky), L[i]? = some x → L[i + 1]? = some y → x.id ≠ y.id) : L.Pairwise fun x y => x.id < y.id := by
  rw [List.pairwise_iff_getElem]
  have step : ∀ (i : Nat) (x y : Ky), L[i]? = some x → L[i + 1]? = some y → x.id < y.id := by
    intro i x y hx hy
    have h1 := hs i (i + 1) (Nat.lt_succ_self _) x y hx hy
    rw [List.not_lt] at h1
    rcases List.le_iff_lt_or_eq.1 h1 with h | h
    · exact h
    · exact absurd h (ha i x y hx hy)
  intro i j hi hj hij
  obtain ⟨d, rfl⟩ : ∃ d, j = i + 1 + d := ⟨j - i - 1, by omega⟩
  induction d with
  | zero => exact step i _ _ (List.getElem?_eq_getElem hi) (List.getElem?_eq_getElem hj)
  | succ d ih =>
    have hj' : i + 1 + d < L.length := by omega
    exact List.lt_trans (ih hj' (by omega)) (step (i + 1 + d) _ _ (List.getElem?_eq_getElem hj') (List.getElem?_eq_getElem hj))
end Go.Proofs.YtocligpfmfmihabGreatDoor

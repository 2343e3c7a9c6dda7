import Derived.Test.YtocligpfmfmihabGreatDoorChn5
import Derived.Test.YtocligpfmfmihabGreatDoorSgn2G
import Derived.Test.YtocligpfmfmihabGreatDoorRef27G
namespace Go.Proofs.YtocligpfmfmihabGreatDoor
open Go Go.RowKit Go.Extern.Stop Go.Stop Go.Extern

set_option maxRecDepth 20000 in
set_option maxHeartbeats 4000000 in
/-- errors.as on a chain, at *notary.eventFault. -/
theorem asl_evt (w : World) (a : Addr) (ks : List (Lk × ByteArray)) (ev : Value) (hch : Chn w a ks ev) (tb : Nat) (old : Value) (va : Addr) (hva : w.cell? va = some (.pointer (some ⟨tb, 0, none⟩))) (ht0 : w.heap[tb]? = some (.cells #[old] 111)) :
    Calls Tryz.prog 78 #[ev, .iface 135 (.pointer (some ⟨tb, 0, none⟩)), (Value.agg #[Value.pointer (some (Addr.mk 31 135 none)), Value.pointer (some va), Value.int IntKind.u64 150]), .iface 237 ((Value.agg #[Value.pointer (some (Addr.mk 31 111 none))]))] w fun e w' => AsR Lk.evt 111 w tb (ks.find? (fun p => p.1 == Lk.evt)) e w' := by
  have g1 := aW_evt
  have g2 := m_assign
  have g3 := aAs_evt_err
  have g4 := noAsE
  have g5 := noUnwrapE
  have g6 := noUnwrapsE
  have g7 := callTypeOf
  have KB : Kp (fun k => k = tb) w (w.alloc (.cells #[.pointer (some ⟨31, 135, none⟩), .pointer (some va), .int .u64 150] 178)) := (Kp.refl _ w).alloc _
  have hlv := lt_cell hva
  have htl := lt_heap ht0
  have hva1 : (w.alloc (.cells #[.pointer (some ⟨31, 135, none⟩), .pointer (some va), .int .u64 150] 178)).cell? va = some (.pointer (some ⟨tb, 0, none⟩)) := by rw [World.cell?_alloc_lt _ _ va hlv]; exact hva
  have ht1 : (w.alloc (.cells #[.pointer (some ⟨31, 135, none⟩), .pointer (some va), .int .u64 150] 178)).heap[tb]? = some (.cells #[old] 111) := by rw [Below.heap_alloc _ _ _ htl]; exact ht0
  have hch1 : Chn (w.alloc (.cells #[.pointer (some ⟨31, 135, none⟩), .pointer (some va), .int .u64 150] 178)) a ks ev := hch.kp ((Kp.refl _ w).alloc _)
  have HC := hide hch1
  obtain ⟨t0, u0, rfl⟩ := hch.iface
  clear hch hch1 hva ht0 hlv
  go_enter Tryz.func78, Tryz.ntmps78
  go_wp2
  have HK := hide KB
  clear KB
  have hsz : (w.alloc (.cells #[.pointer (some ⟨31, 135, none⟩), .pointer (some va), .int .u64 150] 178)).heap.size = w.heap.size + 1 := by simp
  have hx0 : (w.alloc (.cells #[.pointer (some ⟨31, 135, none⟩), .pointer (some va), .int .u64 150] 178)).cell? ⟨w.heap.size, 0, none⟩ = some (.pointer (some ⟨31, 135, none⟩)) := by simp
  have hx1 : (w.alloc (.cells #[.pointer (some ⟨31, 135, none⟩), .pointer (some va), .int .u64 150] 178)).cell? ⟨w.heap.size, 1, none⟩ = some (.pointer (some va)) := by simp
  have hx2 : (w.alloc (.cells #[.pointer (some ⟨31, 135, none⟩), .pointer (some va), .int .u64 150] 178)).cell? ⟨w.heap.size, 2, none⟩ = some (.int .u64 150) := by simp
  generalize w.alloc (.cells #[.pointer (some ⟨31, 135, none⟩), .pointer (some va), .int .u64 150] 178) = w1 at *
  go_loopg [0] ks.length (fun gg v wr => ∃ ks' : List (Lk × ByteArray), gg = ks'.length ∧ Chn w1 a ks' v ∧ ks'.find? (fun p => p.1 == Lk.evt) = ks.find? (fun p => p.1 == Lk.evt) ∧ wr = w1)
  case atStart => exact ⟨ks, rfl, HC.out, rfl, rfl⟩
  case round =>
    obtain ⟨ks', hgg, hc, hfi, rfl⟩ := hrel
    clear HC
    cases hc with
    | nil =>
      have HF := hide hfi
      clear hgg hfi
      unfold errV
      go_wp2
      go_ret
      exact AsR.none HK.out HF.out.symm
    | cons k ks2 b2 s ev2 hb2 hc2 =>
      have hcell := chn_cell hb2
      have HG := hide hgg
      have HB := hide hb2
      have HF := hide hfi
      have HC2 := hide hc2
      obtain ⟨t2, u2, rfl⟩ := hc2.iface
      clear hgg hc2 hb2 hfi
      cases k with
      | mem =>
        have h1 := callTypeOf_mem
        have h2 := aAs_evt_mem
        have nW := noAs_mem
        have uW := hasUnwrap_mem
        have mU := methodUnwrap_mem
        simp only [Lk.off] at hcell
        simp only [Lk.t]
        go_wp2
        go_roundg ks2.length
        case measure => rw [HG.out]; exact Nat.lt_succ_self _
        case rel => exact ⟨ks2, rfl, HC2.out, HF.out, rfl⟩
      | doc =>
        have h1 := callTypeOf_doc
        have h2 := aAs_evt_doc
        have nW := noAs_doc
        have uW := hasUnwrap_doc
        have mU := methodUnwrap_doc
        simp only [Lk.off] at hcell
        simp only [Lk.t]
        go_wp2
        go_roundg ks2.length
        case measure => rw [HG.out]; exact Nat.lt_succ_self _
        case rel => exact ⟨ks2, rfl, HC2.out, HF.out, rfl⟩
      | evt =>
        have h1 := callTypeOf_evt
        have h2 := aAs_evt_evt
        have h3 := aElV_evt va ⟨tb, 0, none⟩ wr hva1
        have hs2 : (wr.alloc (.cells #[.pointer (some ⟨b2, 0, none⟩)] 111)).heap[tb]? = some (.cells #[old] 111) := by rw [Below.heap_alloc _ _ _ (by omega)]; exact ht1
        obtain ⟨tc, tf⟩ := one_cells hs2
        have h4 := aSet_evt ⟨tb, 0, none⟩ ⟨w.heap.size + 1, 0, none⟩ ⟨b2, 0, none⟩ old (wr.alloc (.cells #[.pointer (some ⟨b2, 0, none⟩)] 111)) (by rw [← hsz]; simp) tc tf
        clear tc tf
        simp only [Lk.off] at hcell
        simp only [Lk.t]
        go_wp2
        go_ret
        rw [set_alloc0 (lt_heap ht1)]
        exact AsR.hit HK.out HF.out HB.out hs2 (by decide) (by decide)
      | srv =>
        have h1 := callTypeOf_srv
        have h2 := aAs_evt_srv
        have nW := noAs_srv
        have uW := hasUnwrap_srv
        have mU := methodUnwrap_srv
        simp only [Lk.off] at hcell
        simp only [Lk.t]
        go_wp2
        go_roundg ks2.length
        case measure => rw [HG.out]; exact Nat.lt_succ_self _
        case rel => exact ⟨ks2, rfl, HC2.out, HF.out, rfl⟩
set_option maxRecDepth 20000 in
set_option maxHeartbeats 4000000 in
/-- errors.As on a chain, at *notary.eventFault. -/
theorem as_evt (w : World) (a : Addr) (ks : List (Lk × ByteArray)) (ev : Value) (hch : Chn w a ks ev) (tb : Nat) (old : Value) (hg : w.cell? ⟨6, 0, none⟩ = some (.iface 237 ((Value.agg #[Value.pointer (some (Addr.mk 31 58 none))])))) (ht0 : w.heap[tb]? = some (.cells #[old] 111)) :
    Calls Tryz.prog 46 #[ev, .iface 135 (.pointer (some ⟨tb, 0, none⟩))] w fun e w' => AsR Lk.evt 111 w tb (ks.find? (fun p => p.1 == Lk.evt)) e w' := by
  have KA : Kp (fun _ => False) w ((w.alloc (.cells #[.pointer (some ⟨tb, 0, none⟩)] 135)).alloc (.cells #[.pointer (some ⟨31, 135, none⟩), .pointer (some ⟨w.heap.size, 0, none⟩), .int .u64 150] 178)) := ((Kp.refl _ w).alloc _).alloc _
  have h1 := aV_evt
  have h2 := aTy_evt
  have h3 := m_kind
  have h4 := m_elem
  have h5 := m_impl
  have h7 := aK1_evt
  have h8 := aK2_evt
  have h9 := aEl_evt
  have h10 := aIm_evt
  have hlt := lt_cell hg
  have hcv : ((w.alloc (.cells #[.pointer (some ⟨tb, 0, none⟩)] 135)).alloc (.cells #[.pointer (some ⟨31, 135, none⟩), .pointer (some ⟨w.heap.size, 0, none⟩), .int .u64 150] 178)).cell? ⟨w.heap.size, 0, none⟩ = some (.pointer (some ⟨tb, 0, none⟩)) := by simp
  have h13 := aNil_evt ⟨w.heap.size, 0, none⟩ ⟨tb, 0, none⟩ _ hcv
  have hg2 : ((w.alloc (.cells #[.pointer (some ⟨tb, 0, none⟩)] 135)).alloc (.cells #[.pointer (some ⟨31, 135, none⟩), .pointer (some ⟨w.heap.size, 0, none⟩), .int .u64 150] 178)).cell? ⟨6, 0, none⟩ = some (.iface 237 ((Value.agg #[Value.pointer (some (Addr.mk 31 58 none))]))) := by
    rw [World.cell?_alloc_lt _ _ ⟨6, 0, none⟩ (by simp at hlt ⊢; omega), World.cell?_alloc_lt _ _ ⟨6, 0, none⟩ hlt]; exact hg
  have HL := hide (asl_evt _ a ks ev (hch.kp KA) tb old ⟨w.heap.size, 0, none⟩ hcv ((KA.block _ (lt_heap ht0) (by simp)).trans ht0))
  have HK := hide KA
  obtain ⟨t0, u0, rfl⟩ := hch.iface
  clear hch KA hcv hlt ht0 hg
  go_enter Tryz.func46, Tryz.ntmps46
  go_wp2_with fail
  refine HL.out.mono ?_
  rintro e w' hr
  obtain ⟨r, rfl⟩ := hr.ret
  go_wp2
  go_ret
  exact hr.before HK.out
end Go.Proofs.YtocligpfmfmihabGreatDoor
namespace Go.Proofs.YtocligpfmfmihabGreatDoor
open Go Go.RowKit Go.Maps Go.WideMaps

/-- The four errors that have numbers of their own. -/
def four : List Nat := [3, 4, 5, 1]
/-- One of errors.New's that is none of the four. -/
def Plain (W : World) (a : Addr) : Prop := (∃ c t, W.heap[a.block]? = some (.cells c t)) ∧ ∀ g ∈ four, W.cell? ⟨g, 0, none⟩ ≠ some (errV a)
/-- What more the variables of the program hold. -/
structure NG2 (W : World) : Prop where
  ng : NG W
  lay : ∀ g ∈ four, ∃ a c t, W.cell? ⟨g, 0, none⟩ = some (errV a) ∧ W.heap[a.block]? = some (.cells c t)
  sml : ∀ g ∈ [9, 12, 10, 13, 14, 2], ∃ a, W.cell? ⟨g, 0, none⟩ = some (errV a) ∧ Plain W a
/-- An error of members, of a document: a chain down to a plain one. -/
inductive Ech (W w : World) : Value → Prop
  | base (a : Addr) : Plain W a → Ech W w (errV a)
  | mem (b : Nat) (s : ByteArray) (ev : Value) : w.heap[b]? = some (.cells #[.string s, ev] 190) → Ech W w ev → Ech W w (.iface 188 (.pointer (some ⟨b, 0, none⟩)))
theorem Ech.up {W w w' : World} {ev : Value} (h : Ech W w ev) (hk : Kp (fun _ => False) w w') : Ech W w' ev := by
  induction h with
  | base a h => exact .base a h
  | mem b s ev h _ ih => exact .mem b s ev (hk.heap h) ih
theorem Ech.iface {W w : World} {ev : Value} (h : Ech W w ev) : ∃ t u, ev = .iface t u := by
  cases h with
  | base a h => exact ⟨_, _, rfl⟩
  | mem b s ev h _ => exact ⟨_, _, rfl⟩

/-- What stands under a key, as the program holds it. -/
def UdV (w : World) (o : Option J) (v : Value) : Prop := match o with | none => v = .nilIface | some j => Rep w (fun k => k < w.heap.size) j v
theorem usn (w : World) : (Instr.typeAssert .nilIface 137 167 true).run Tryz.prog w = .ok (.tuple #[.string ⟨#[]⟩, .bool false]) w := by kernel_rfl
theorem us0 (w : World) : (Instr.typeAssert (.iface 194 (.agg #[])) 137 167 true).run Tryz.prog w = .ok (.tuple #[.string ⟨#[]⟩, .bool false]) w := by kernel_rfl
theorem us1 (b : Bool) (w : World) : (Instr.typeAssert (.iface 195 (.bool b)) 137 167 true).run Tryz.prog w = .ok (.tuple #[.string ⟨#[]⟩, .bool false]) w := by kernel_rfl
theorem us2 (n : Int) (w : World) : (Instr.typeAssert (.iface 197 (.int .i64 n)) 137 167 true).run Tryz.prog w = .ok (.tuple #[.string ⟨#[]⟩, .bool false]) w := by kernel_rfl
theorem us3 (s : ByteArray) (w : World) : (Instr.typeAssert (.iface 167 (.string s)) 137 167 true).run Tryz.prog w = .ok (.tuple #[.string s, .bool true]) w := by kernel_rfl
theorem us4 (sv : Value) (w : World) : (Instr.typeAssert (.iface 201 sv) 137 167 true).run Tryz.prog w = .ok (.tuple #[.string ⟨#[]⟩, .bool false]) w := by kernel_rfl
theorem us5 (mb : Option Nat) (w : World) : (Instr.typeAssert (.iface 76 (.map mb)) 137 167 true).run Tryz.prog w = .ok (.tuple #[.string ⟨#[]⟩, .bool false]) w := by kernel_rfl
theorem umn (w : World) : (Instr.typeAssert .nilIface 137 197 true).run Tryz.prog w = .ok (.tuple #[.int .i64 0, .bool false]) w := by kernel_rfl
theorem um0 (w : World) : (Instr.typeAssert (.iface 194 (.agg #[])) 137 197 true).run Tryz.prog w = .ok (.tuple #[.int .i64 0, .bool false]) w := by kernel_rfl
theorem um1 (b : Bool) (w : World) : (Instr.typeAssert (.iface 195 (.bool b)) 137 197 true).run Tryz.prog w = .ok (.tuple #[.int .i64 0, .bool false]) w := by kernel_rfl
theorem um2 (n : Int) (w : World) : (Instr.typeAssert (.iface 197 (.int .i64 n)) 137 197 true).run Tryz.prog w = .ok (.tuple #[.int .i64 n, .bool true]) w := by kernel_rfl
theorem um3 (s : ByteArray) (w : World) : (Instr.typeAssert (.iface 167 (.string s)) 137 197 true).run Tryz.prog w = .ok (.tuple #[.int .i64 0, .bool false]) w := by kernel_rfl
theorem um4 (sv : Value) (w : World) : (Instr.typeAssert (.iface 201 sv) 137 197 true).run Tryz.prog w = .ok (.tuple #[.int .i64 0, .bool false]) w := by kernel_rfl
theorem um5 (mb : Option Nat) (w : World) : (Instr.typeAssert (.iface 76 (.map mb)) 137 197 true).run Tryz.prog w = .ok (.tuple #[.int .i64 0, .bool false]) w := by kernel_rfl
theorem uon (w : World) : (Instr.typeAssert .nilIface 137 76 true).run Tryz.prog w = .ok (.tuple #[.map none, .bool false]) w := by kernel_rfl
theorem ud_look (w : World) (l : List (Bs × J)) (b : Nat) (k : Bs) (hk : k.length ≤ 139000000000000) (ho : Oz w l b) :
    ∃ v, (Instr.lookup 76 (.map (some b)) (.string ⟨k.toArray⟩) false).run Tryz.prog w = .ok v w ∧ UdV w (lookK k l) v := by
  obtain ⟨b', m, e, hFb, hown, hrep⟩ := ho.shape
  cases e
  obtain ⟨lv, lps, hlk, hlr⟩ := hown.lookup keyed Tryz.underlying76 (zeroV w) (R := Rv) (zd := .held .nilIface) (zp := []) rfl (key_mk2 hk)
  refine ⟨lv, hlk, ?_⟩
  rw [dm_at] at hlr
  rcases Repm.look k l m hrep with ⟨e1, e2⟩ | ⟨v, x, e1, e2, hx⟩
  · rw [e1] at hlr
    simp only [Rv, Option.some.injEq, Prod.mk.injEq, DataW.held.injEq] at hlr
    rw [e2]
    exact hlr.1
  · rw [e1] at hlr
    simp only [Rv, Option.some.injEq, Prod.mk.injEq, DataW.held.injEq] at hlr
    rw [e2]
    show Rep _ _ _ _
    rw [hlr.1]
    exact hx
theorem UdV.shape {w : World} {o : Option J} {v : Value} (h : UdV w o v) : v = .nilIface ∨ ∃ t u, v = .iface t u := by
  cases o with
  | none => exact Or.inl h
  | some j => exact Or.inr (Rep.iface h)
/-- As a text. -/
theorem ud_str {w : World} {o : Option J} {v : Value} (h : UdV w o v) : (∃ s, strF o = some s ∧ ∀ w', (Instr.typeAssert v 137 167 true).run Tryz.prog w' = .ok (.tuple #[.string ⟨s.toArray⟩, .bool true]) w') ∨
    (strF o = none ∧ ∀ w', (Instr.typeAssert v 137 167 true).run Tryz.prog w' = .ok (.tuple #[.string ⟨#[]⟩, .bool false]) w') := by
  cases o with
  | none => cases h; exact Or.inr ⟨rfl, usn⟩
  | some j =>
    have h : Rep w (fun k => k < w.heap.size) j v := h
    cases j with
    | null => rw [Rep] at h; cases h; exact Or.inr ⟨rfl, us0⟩
    | bool b => rw [Rep] at h; cases h; exact Or.inr ⟨rfl, us1 b⟩
    | num n => rw [Rep] at h; cases h; exact Or.inr ⟨rfl, us2 n⟩
    | str s => rw [Rep] at h; cases h; exact Or.inl ⟨s, rfl, us3 _⟩
    | arr l => rw [Rep] at h; obtain ⟨sv, vs, e, _⟩ := h; cases e; exact Or.inr ⟨rfl, us4 _⟩
    | obj l => rw [Rep] at h; obtain ⟨b, m, e, _⟩ := h; cases e; exact Or.inr ⟨rfl, us5 _⟩
/-- The number of a value. -/
def numF : Option J → Option Int | some (.num n) => some n | _ => none
theorem ud_num {w : World} {o : Option J} {v : Value} (h : UdV w o v) : (∃ n, numF o = some n ∧ ∀ w', (Instr.typeAssert v 137 197 true).run Tryz.prog w' = .ok (.tuple #[.int .i64 n, .bool true]) w') ∨
    (numF o = none ∧ ∀ w', (Instr.typeAssert v 137 197 true).run Tryz.prog w' = .ok (.tuple #[.int .i64 0, .bool false]) w') := by
  cases o with
  | none => cases h; exact Or.inr ⟨rfl, umn⟩
  | some j =>
    have h : Rep w (fun k => k < w.heap.size) j v := h
    cases j with
    | null => rw [Rep] at h; cases h; exact Or.inr ⟨rfl, um0⟩
    | bool b => rw [Rep] at h; cases h; exact Or.inr ⟨rfl, um1 b⟩
    | num n => rw [Rep] at h; cases h; exact Or.inl ⟨n, rfl, um2 _⟩
    | str s => rw [Rep] at h; cases h; exact Or.inr ⟨rfl, um3 _⟩
    | arr l => rw [Rep] at h; obtain ⟨sv, vs, e, _⟩ := h; cases e; exact Or.inr ⟨rfl, um4 _⟩
    | obj l => rw [Rep] at h; obtain ⟨b, m, e, _⟩ := h; cases e; exact Or.inr ⟨rfl, um5 _⟩
/-- The members of a value. -/
def objF : Option J → Option (List (Bs × J)) | some (.obj m) => some m | _ => none
theorem ud_obj {w : World} {o : Option J} {v : Value} (h : UdV w o v) : (∃ m b, objF o = some m ∧ Oz w m b ∧ ∀ w', (Instr.typeAssert v 137 76 true).run Tryz.prog w' = .ok (.tuple #[.map (some b), .bool true]) w') ∨
    (objF o = none ∧ ∀ w', (Instr.typeAssert v 137 76 true).run Tryz.prog w' = .ok (.tuple #[.map none, .bool false]) w') := by
  cases o with
  | none => cases h; exact Or.inr ⟨rfl, uon⟩
  | some j =>
    have h : Rep w (fun k => k < w.heap.size) j v := h
    cases j with
    | null => rw [Rep] at h; cases h; exact Or.inr ⟨rfl, to0⟩
    | bool b => rw [Rep] at h; cases h; exact Or.inr ⟨rfl, to1 b⟩
    | num n => rw [Rep] at h; cases h; exact Or.inr ⟨rfl, to2 _⟩
    | str s => rw [Rep] at h; cases h; exact Or.inr ⟨rfl, to3 _⟩
    | arr l => rw [Rep] at h; obtain ⟨sv, vs, e, _⟩ := h; cases e; exact Or.inr ⟨rfl, to4 _⟩
    | obj l =>
      have h0 := h
      rw [Rep] at h
      obtain ⟨b, m, e, _⟩ := h
      cases e
      exact Or.inl ⟨l, b, rfl, h0, ta55 _⟩
/-- What a call comes to that hands back a value or an error. -/
def UnR (W w : World) (z : Value) (o : Option Value) (e : Ending) (w' : World) : Prop := Kp (fun _ => False) w w' ∧ match o with
  | some v => e = .returned (.tuple #[v, .nilIface])
  | none => ∃ ev, e = .returned (.tuple #[z, ev]) ∧ Ech W w' ev
theorem ech_box {W w : World} {s : ByteArray} {ev : Value} (h : Ech W w ev) : Ech W (w.alloc (.cells #[.string s, ev] 190)).drew (.iface 188 (.pointer (some ⟨w.heap.size, 0, none⟩))) :=
  .mem _ s ev (by exact heap_alloc_new w _) (h.up (((Kp.refl _ w).alloc _).drew))
theorem un_new {W w0 w : World} {s : ByteArray} {z ev : Value} (hk : Kp (fun _ => False) w0 w) (h : Ech W w ev) : UnR W w0 z none (.returned (.tuple #[z, .iface 188 (.pointer (some ⟨w.heap.size, 0, none⟩))])) (w.alloc (.cells #[.string s, ev] 190)).drew :=
  ⟨(hk.alloc _).drew, _, rfl, ech_box h⟩
theorem momF_num (o : Option J) : momF o = (numF o).bind fun n => if 0 ≤ n then some n else none := by
  cases o with
  | none => rfl
  | some j => cases j <;> rfl
set_option maxRecDepth 20000 in
theorem textUnder_c (W : World) (hN : NG2 W) (w : World) (hW : Below W.heap.size W w) (l : List (Bs × J)) (b : Nat) (k : Bs) (hk : k.length ≤ 139000000000000) (ho : Oz w l b) :
    Calls Tryz.prog 94 #[.map (some b), .string ⟨k.toArray⟩] w fun e w' => UnR W w (.string ⟨#[]⟩) ((strF (lookK k l)).map fun s => .string ⟨s.toArray⟩) e w' := by
  obtain ⟨v, hlk, hud⟩ := ud_look w l b k hk ho
  obtain ⟨a, ha, hp⟩ := hN.sml 9 (by simp)
  have hc := Below.cl hW ha
  have HE : Hid (Ech W w (errV a)) := Ech.base a hp
  unfold errV at hc HE
  clear ha hp ho
  rcases ud_str hud with ⟨s, hs, hta⟩ | ⟨hs, hta⟩
  · rw [hs]
    rcases hud.shape with rfl | ⟨tt, u, rfl⟩
    all_goals
      clear hud hs
      go_enter Tryz.func94, Tryz.ntmps94
      go_wp2
      go_ret2
      exact ⟨Kp.refl _ _, rfl⟩
  · rw [hs]
    rcases hud.shape with rfl | ⟨tt, u, rfl⟩
    all_goals
      clear hud hs
      go_enter Tryz.func94, Tryz.ntmps94
      go_wp2
      go_region
      go_wp2
      go_ret2
      exact un_new (Kp.refl _ _) HE.out
/-- What objectUnder comes to. -/
def OuR (W w : World) (o : Option (List (Bs × J))) (e : Ending) (w' : World) : Prop := Kp (fun _ => False) w w' ∧ match o with
  | some m => ∃ b, e = .returned (.tuple #[.map (some b), .nilIface]) ∧ Oz w' m b
  | none => ∃ ev, e = .returned (.tuple #[.map none, ev]) ∧ Ech W w' ev
set_option maxRecDepth 20000 in
theorem objectUnder_c (W : World) (hN : NG2 W) (w : World) (hW : Below W.heap.size W w) (l : List (Bs × J)) (b : Nat) (k : Bs) (hk : k.length ≤ 139000000000000) (ho : Oz w l b) :
    Calls Tryz.prog 166 #[.map (some b), .string ⟨k.toArray⟩] w fun e w' => OuR W w (objF (lookK k l)) e w' := by
  obtain ⟨v, hlk, hud⟩ := ud_look w l b k hk ho
  obtain ⟨a, ha, hp⟩ := hN.sml 9 (by simp)
  have hc := Below.cl hW ha
  have HE : Hid (Ech W w (errV a)) := Ech.base a hp
  unfold errV at hc HE
  clear ha hp ho
  rcases ud_obj hud with ⟨m, b2, hs, hm, hta⟩ | ⟨hs, hta⟩
  · rw [hs]
    rcases hud.shape with rfl | ⟨tt, u, rfl⟩
    all_goals
      clear hud hs
      go_enter Tryz.func166, Tryz.ntmps166
      go_wp2
      go_ret2
      exact ⟨Kp.refl _ _, b2, rfl, hm⟩
  · rw [hs]
    rcases hud.shape with rfl | ⟨tt, u, rfl⟩
    all_goals
      clear hud hs
      go_enter Tryz.func166, Tryz.ntmps166
      go_wp2
      go_region
      go_wp2
      go_ret2
      exact un_new (Kp.refl _ _) HE.out
set_option maxRecDepth 20000 in
theorem momentUnder_c (W : World) (hN : NG2 W) (w : World) (hW : Below W.heap.size W w) (l : List (Bs × J)) (b : Nat) (k : Bs) (hk : k.length ≤ 139000000000000) (ho : Oz w l b) :
    Calls Tryz.prog 73 #[.map (some b), .string ⟨k.toArray⟩] w fun e w' => UnR W w (.int .i64 0) ((momF (lookK k l)).map fun n => .int .i64 n) e w' := by
  obtain ⟨v, hlk, hud⟩ := ud_look w l b k hk ho
  obtain ⟨a, ha, hp⟩ := hN.sml 9 (by simp)
  obtain ⟨a2, ha2, hp2⟩ := hN.sml 10 (by simp)
  have hc := Below.cl hW ha
  have hc2 := Below.cl hW ha2
  have HE : Hid (Ech W w (errV a)) := Ech.base a hp
  have HE2 : Hid (Ech W w (errV a2)) := Ech.base a2 hp2
  unfold errV at hc HE hc2 HE2
  clear ha hp ho ha2 hp2
  rw [momF_num]
  rcases ud_num hud with ⟨n, hs, hta⟩ | ⟨hs, hta⟩
  · rw [hs]
    by_cases hn : 0 ≤ n
    · have hn' : decide (n < 0) = false := by simp; omega
      have hz := hide (show ((some n).bind fun n => if 0 ≤ n then some n else none) = some n by simp [hn])
      rcases hud.shape with rfl | ⟨tt, u, rfl⟩
      all_goals
        clear hud hs hn
        go_enter Tryz.func73, Tryz.ntmps73
        go_wp2
        go_ret2
        rw [hz.out]
        exact ⟨Kp.refl _ _, rfl⟩
    · have hn' : decide (n < 0) = true := by simp; omega
      have hz := hide (show ((some n).bind fun n => if 0 ≤ n then some n else none) = none by simp [hn])
      rcases hud.shape with rfl | ⟨tt, u, rfl⟩
      all_goals
        clear hud hs hn
        go_enter Tryz.func73, Tryz.ntmps73
        go_wp2
        go_region
        go_wp2
        go_ret2
        rw [hz.out]
        exact un_new (Kp.refl _ _) HE2.out
  · rw [hs]
    rcases hud.shape with rfl | ⟨tt, u, rfl⟩
    all_goals
      clear hud hs
      go_enter Tryz.func73, Tryz.ntmps73
      go_wp2
      go_region
      go_wp2
      go_ret2
      exact un_new (Kp.refl _ _) HE.out
set_option maxRecDepth 20000 in
theorem isName_c (s : Bs) (w : World) : Calls Tryz.prog 134 #[.string ⟨s.toArray⟩] w fun e w' => e = .returned (.bool (isNm s)) ∧ w' = w := by
  have hsz := mk_size2 s
  by_cases h1 : 1 ≤ s.length
  · have g1 : decide ((1 : Int) ≤ (s.length : Int)) = true := by simp; omega
    by_cases h2 : s.length ≤ 20
    · have g2 : decide ((s.length : Int) ≤ 20) = true := by simp; omega
      have hz := hide (show isNm s = true by simp [isNm, h1, h2])
      clear h1 h2
      go_enter Tryz.func134, Tryz.ntmps134
      go_wp2
      go_ret
      rw [hz.out]
      exact ⟨rfl, rfl⟩
    · have g2 : decide ((s.length : Int) ≤ 20) = false := by simp; omega
      have hz := hide (show isNm s = false by simp [isNm, h2])
      clear h1 h2
      go_enter Tryz.func134, Tryz.ntmps134
      go_wp2
      go_ret
      rw [hz.out]
      exact ⟨rfl, rfl⟩
  · have g1 : decide ((1 : Int) ≤ (s.length : Int)) = false := by simp; omega
    have hz := hide (show isNm s = false by simp [isNm]; omega)
    clear h1
    go_enter Tryz.func134, Tryz.ntmps134
    go_wp2
    go_ret
    rw [hz.out]
    exact ⟨rfl, rfl⟩
set_option maxRecDepth 20000 in
theorem nameUnder_c (W : World) (hN : NG2 W) (w : World) (hW : Below W.heap.size W w) (l : List (Bs × J)) (b : Nat) (k : Bs) (hk : k.length ≤ 139000000000000) (ho : Oz w l b) :
    Calls Tryz.prog 90 #[.map (some b), .string ⟨k.toArray⟩] w fun e w' => UnR W w (.string ⟨#[]⟩) ((nameF (lookK k l)).map fun s => .string ⟨s.toArray⟩) e w' := by
  obtain ⟨a, ha, hp⟩ := hN.sml 12 (by simp)
  have HX := hide (textUnder_c W hN w hW l b k hk ho)
  clear ho
  go_enter Tryz.func90, Tryz.ntmps90
  go_wp2_with fail
  refine HX.out.mono ?_
  rintro e w1 ⟨K1, h1⟩
  have hc := Below.cl (below_kp hW K1) ha
  have HE : Hid (Ech W w1 (errV a)) := Ech.base a hp
  unfold errV at hc HE
  have HK := hide K1
  clear HX ha hp K1
  have hnf : nameF (lookK k l) = (strF (lookK k l)).bind fun s => if isNm s then some s else none := rfl
  cases hs : strF (lookK k l) with
  | none =>
    rw [hs] at h1
    obtain ⟨ev, rfl, he⟩ := h1
    obtain ⟨tt, u, rfl⟩ := he.iface
    have HE2 := hide he
    rw [hs] at hnf
    have hz := hide hnf
    clear he hs hnf
    go_wp2
    go_ret2
    rw [hz.out]
    exact ⟨HK.out, _, rfl, HE2.out⟩
  | some s =>
    rw [hs] at h1
    replace h1 : e = .returned (.tuple #[.string ⟨s.toArray⟩, .nilIface]) := h1
    subst h1
    rw [hs] at hnf
    clear hs
    cases hn : isNm s with
    | true =>
      have hz := hide (show nameF (lookK k l) = some s by rw [hnf]; simp [hn])
      clear hnf
      have HN := hide hn
      clear hn
      go_wp2_with fail
      refine (isName_c s w1).mono ?_
      rintro e w2 ⟨rfl, rfl⟩
      rw [HN.out]
      go_wp2
      go_ret2
      rw [hz.out]
      exact ⟨HK.out, rfl⟩
    | false =>
      have hz := hide (show nameF (lookK k l) = none by rw [hnf]; simp [hn])
      clear hnf
      have HN := hide hn
      clear hn
      go_wp2_with fail
      refine (isName_c s w1).mono ?_
      rintro e w2 ⟨rfl, rfl⟩
      rw [HN.out]
      go_wp2
      go_region
      go_wp2
      go_ret2
      rw [hz.out]
      exact un_new HK.out HE.out
end Go.Proofs.YtocligpfmfmihabGreatDoor

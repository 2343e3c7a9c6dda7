import Derived.Test.YtocligpfmfmihabGreatDoorHon2G
import Derived.Test.YtocligpfmfmihabGreatDoorProg
import Derived.Conc.MuData
import Derived.Conc.MuLone
import Derived.KernelRfl
import Derived.Test.YtocligpfmfmihabGreatDoorRef27G
import Derived.Test.YtocligpfmfmihabGreatDoorRea7G
import Derived.Defers
import Derived.Test.YtocligpfmfmihabGreatDoorVal
import Derived.Test.YtocligpfmfmihabGreatDoorMixG
namespace Go.Proofs.YtocligpfmfmihabGreatDoor
open Go Go.RowKit Go.Maps Go.Lib

def sdocF (s id k : Bs) (till : Int) : Bs := cJ (.obj (signL (docL s id k till) s id (sealF ⟨k.toArray⟩ ⟨(bareF (docL s id k till)).toArray⟩).data.toList))
theorem kp_below {w w' : World} (h : Below w.heap.size w w') : Kp (fun _ => False) w w' := ⟨h.os, h.tape, h.output, h.size, fun k hk _ => h.block k hk⟩
theorem seal_size (a b : ByteArray) : (sealF a b).size = 8 := by
  have := (seal_ok a b).2
  rwa [Array.length_toList] at this
theorem doc_txt {s id k : Bs} {till : Int} (hs : Nm s) (hi : ∀ c ∈ id, 97 ≤ c.toNat ∧ c.toNat ≤ 122) (hk : Nm k) (h0 : 0 ≤ till) :
    (ByteArray.mk #[123, 34, 115, 101, 114, 118, 101, 114, 95, 110, 97, 109, 101, 34, 58, 34] ++ ⟨s.toArray⟩ ++ ⟨#[34, 44, 34, 118, 97, 108, 105, 100, 95, 117, 110, 116, 105, 108, 95, 116, 115, 34, 58]⟩ ++ ⟨(decN till.toNat).toArray⟩ ++ ⟨#[44, 34, 118, 101, 114, 105, 102, 121, 95, 107, 101, 121, 115, 34, 58, 123, 34]⟩ ++ ⟨id.toArray⟩ ++ ⟨#[34, 58, 123, 34, 107, 101, 121, 34, 58, 34]⟩ ++ ⟨k.toArray⟩ ++ ⟨#[34, 125, 125, 125]⟩ : ByteArray) = ⟨(cJ (.obj (docL s id k till))).toArray⟩ := by
  rw [docL_text hs hi hk h0]
  apply ByteArray.ext
  simp [kSrv, kUnt, kVer, kKey]
theorem digits_i (w : World) (n : Int) (h0 : 0 ≤ n) (h1 : n < 100000) :
    Calls Tryz.prog 17 #[.int .i64 n] w fun e w' => e = .returned (.string ⟨(decN n.toNat).toArray⟩) ∧ Kp (fun _ => False) w w' := by
  have h := digits_c w n.toNat (by omega)
  have e : ((n.toNat : Nat) : Int) = n := by omega
  rwa [e] at h
set_option maxRecDepth 20000 in
set_option maxHeartbeats 2000000 in
theorem document_c (W : World) (hN : NG W) (w : World) (hW : Below W.heap.size W w) (s id k : Bs) (till : Int) (hs : Nm s) (hi : ∀ c ∈ id, 97 ≤ c.toNat ∧ c.toNat ≤ 122) (hi1 : 1 ≤ id.length) (hil : id.length ≤ 5) (hk : Nm k) (h0 : 0 ≤ till) (h1 : till < 100000) :
    Calls Tryz.prog 8 #[.string ⟨s.toArray⟩, .string ⟨id.toArray⟩, .string ⟨k.toArray⟩, .int .i64 till] w fun e w' => e = .returned (.tuple #[.string ⟨(sdocF s id k till).toArray⟩, .bool true]) ∧ Kp (fun _ => False) w w' := by
  have zs := mk_size2 s
  have zi := mk_size2 id
  have zk := mk_size2 k
  have zd := mk_size2 (decN till.toNat)
  have ls := hs.few
  have lk := hk.few
  have ld := decN_ln (n := till.toNat) (by omega)
  have HD := hide (digits_i w till h0 h1)
  have HT := hide (doc_txt hs hi hk h0)
  have vi : validD id = true := by
    have := validD_low id [] (fun b hb => by have := hi b hb; omega)
    rwa [List.append_nil] at this
  have hwf := docL_wf hs vi hk h0 h1
  have hlen := len_doc hs hi hil hk h0 h1
  have HM := hide (msg_of hwf (by omega))
  have hsk := seal_ok ⟨k.toArray⟩ ⟨(bareF (docL s id k till)).toArray⟩
  have HV : Hid ((sealF ⟨k.toArray⟩ ⟨(bareF (docL s id k till)).toArray⟩).size ≤ 2000000) := hide (by rw [seal_size]; omega)
  have HS := hide (sgn_of hwf (by omega) hs.valid vi hsk.1)
  have HZ : Hid (ByteArray.size ⟨(bareF (docL s id k till)).toArray⟩ ≤ 1073741824) := by
    refine hide ?_
    rw [mk_size2]
    unfold bareF
    rw [bare_doc]
    omega
  clear hsk
  go_enter Tryz.func8, Tryz.ntmps8
  go_wp2_with fail
  refine HD.out.mono ?_
  rintro e w1 ⟨rfl, K1⟩
  go_wp2_with fail
  rw [HT.out]
  refine (message_c W hN _ w1 (below_kp hW K1)).mono ?_
  rintro e w2 ⟨rfl, K2⟩
  rw [show (ByteArray.mk (cJ (.obj (docL s id k till))).toArray).data.toList = cJ (.obj (docL s id k till)) by simp, HM.out]
  go_wp2_with fail
  refine (seal_any _ _ w2 (by omega) HZ.out).mono ?_
  rintro e w3 ⟨rfl, B3⟩
  have K3 := K1.trans (K2.trans (kp_below B3))
  have b3 := below_kp hW K3
  have HK3 := hide K3
  clear K1 K2 B3 K3 HD HM
  generalize hsl : sealF ⟨k.toArray⟩ ⟨(bareF (docL s id k till)).toArray⟩ = sl at *
  have HSL := hide hsl
  clear hsl
  go_wp2_with fail
  refine (signed_c W hN _ _ _ _ (by omega) (by omega) HV.out w3 b3).mono ?_
  rintro e w4 ⟨rfl, K4⟩
  rw [show (ByteArray.mk (cJ (.obj (docL s id k till))).toArray).data.toList = cJ (.obj (docL s id k till)) by simp, show (ByteArray.mk s.toArray).data.toList = s by simp, show (ByteArray.mk id.toArray).data.toList = id by simp, HS.out]
  go_wp2_with fail
  go_ret2
  refine ⟨?_, HK3.out.trans K4⟩
  unfold sdocF
  rw [HSL.out]
  rfl
end Go.Proofs.YtocligpfmfmihabGreatDoor
namespace Go.Proofs
abbrev Tryz.muLink : Go.Conc.Locks.MuLink := { lock := 52, unlock := 53, ilock := 79, iunlock := 80, lockSlow := 122, unlockSlow := 124, disable := 97, enable := 98, acquire := 110, relMerge := 96, cas32 := 121, add32 := 123, tMutex := 107, tIMutex := 105, tPMutex := 191, tPIMutex := 249, tPI32 := 251, tUP := 175, tNoCopy := 103, tU32 := 97 }
theorem Tryz.muLib : Go.Conc.Locks.MuLib Tryz.prog Tryz.muLink :=
  ⟨Tryz.func52, Tryz.func53, Tryz.func79, Tryz.func80, Tryz.func97, Tryz.func98, Tryz.func110, Tryz.func96, Tryz.func121, Tryz.func123, Tryz.underlying105, Tryz.runUnderlying105, Tryz.sizeOf105, Tryz.isAgg105, Tryz.zeroValue105, Tryz.underlying107, Tryz.runUnderlying107, Tryz.sizeOf107, Tryz.isAgg107, Tryz.zeroValue107, Tryz.underlying191, Tryz.runUnderlying191, Tryz.sizeOf191, Tryz.isAgg191, Tryz.zeroValue191, Tryz.underlying249, Tryz.runUnderlying249, Tryz.sizeOf249, Tryz.isAgg249, Tryz.zeroValue249, Tryz.underlying251, Tryz.runUnderlying251, Tryz.sizeOf251, Tryz.isAgg251, Tryz.zeroValue251, Tryz.underlying175, Tryz.runUnderlying175, Tryz.sizeOf175, Tryz.isAgg175, Tryz.zeroValue175, Tryz.underlying103, Tryz.runUnderlying103, Tryz.sizeOf103, Tryz.isAgg103, Tryz.zeroValue103, Tryz.underlying21, Tryz.runUnderlying21, Tryz.sizeOf21, Tryz.isAgg21, Tryz.zeroValue21, (by kernel_rfl)⟩
end Go.Proofs
namespace Go.Proofs.YtocligpfmfmihabGreatDoor

/-! ### lists of what is known, as the reference keeps them -/
/-- A key that is known. -/
structure Kn where
  srv : Bs
  id : Bs
  key : Bs
  till : Int
def isK (s i : Bs) (k : Kn) : Bool := decide (k.srv = s) && decide (k.id = i)
def knAt (L : List Kn) (s i : Bs) : Option (Bs × Int) := (L.find? (isK s i)).map fun k => (k.key, k.till)
def isS {α : Type} (s : Bs) (p : Bs × α) : Bool := decide (p.1 = s)
def asc {α : Type} (D : List (Bs × α)) (s : Bs) : Option α := (D.find? (isS s)).map (·.2)
end Go.Proofs.YtocligpfmfmihabGreatDoor
namespace Go.Proofs.YtocligpfmfmihabGreatDoor
open Go Go.RowKit Go.Maps Go.WideMaps Go.MuLone

/-! ### what the program's notary knows -/
theorem key_mk3 {o : List UInt8} (h : o.length ≤ 9223372036854775807) : keyOf Tryz.prog 9 (.string ⟨o.toArray⟩) = some (.string o) := by
  have := keyOf_string_mk (P := Tryz.prog) Tryz.underlying9 (s := ⟨o.toArray⟩) (by unfold maxLen; show o.toArray.size ≤ _; simp; omega)
  simpa using this
theorem mlook {t e : TypeId} {z : Value} (ht : Tryz.prog.underlying t = some (.map 9 e)) (hz : ∀ w, (zeroValue e).run Tryz.prog w = .ok z w) (w : World) (m : List (Bs × Value)) (b n : Nat) (k : Bs) (hk : k.length ≤ 9223372036854775807) (h : w.ownsMap Tryz.prog 9 Rv b n (dm m)) :
    (Instr.lookup t (.map (some b)) (.string ⟨k.toArray⟩) true).run Tryz.prog w = .ok (.tuple #[(lookK k m).getD z, .bool (lookK k m).isSome]) w := by
  obtain ⟨lv, lps, hlk, hlr⟩ := h.look_ok keyed ht (hz w) (R := Rv) (zd := .held z) (zp := []) rfl (key_mk3 hk)
  rw [dm_has] at hlk
  rw [dm_at] at hlr
  rw [hlk]
  cases hl : lookK k m with
  | none =>
    rw [hl] at hlr
    simp only [Rv, Option.some.injEq, Prod.mk.injEq, DataW.held.injEq] at hlr
    rw [hlr.1]
    rfl
  | some v =>
    rw [hl] at hlr
    simp only [Rv, Option.some.injEq, Prod.mk.injEq, DataW.held.injEq] at hlr
    rw [hlr.1]
    rfl
theorem zSrv (w : World) : (zeroValue 125).run Tryz.prog w = .ok (.pointer none) w := by kernel_rfl
theorem zKey (w : World) : (zeroValue 152).run Tryz.prog w = .ok (.agg #[.string ⟨#[]⟩, .int .i64 0]) w := by kernel_rfl
/-- The cells of what is known. -/
def knObj (mb ib : Nat) : Obj := .cells #[.int .i32 0, .int .u32 0, .map (some mb), .map (some ib)] 109
theorem kn_facts {w : World} {b mb ib : Nat} (h : w.heap[b]? = some (knObj mb ib)) : w.cell? ⟨b, 0, none⟩ = some (.int .i32 0) ∧ w.cell? ⟨b, 2, none⟩ = some (.map (some mb)) ∧ w.cell? ⟨b, 3, none⟩ = some (.map (some ib)) ∧ w.frozen? ⟨b, 0, none⟩ = false := by
  unfold knObj at h
  refine ⟨?_, ?_, ?_, ?_⟩ <;> simp [World.cell?, World.frozen?, h]
/-- The lock is taken. -/
def held (b : Nat) (w : World) : World := w.setCell ⟨b, 0, none⟩ (.int .i32 1)
theorem held_facts {w : World} {b mb ib : Nat} (h : w.heap[b]? = some (knObj mb ib)) : (held b w).cell? ⟨b, 0, none⟩ = some (.int .i32 1) ∧ (held b w).cell? ⟨b, 2, none⟩ = some (.map (some mb)) ∧ (held b w).cell? ⟨b, 3, none⟩ = some (.map (some ib)) ∧ (held b w).frozen? ⟨b, 0, none⟩ = false := by
  have hb : (held b w).heap[b]? = some (.cells #[.int .i32 1, .int .u32 0, .map (some mb), .map (some ib)] 109) := by
    unfold held knObj at *
    simp [World.setCell, Array.getElem?_modify, h]
  refine ⟨?_, ?_, ?_, ?_⟩ <;> simp [World.cell?, World.frozen?, hb]
theorem held_back {w : World} {b mb ib : Nat} (h : w.heap[b]? = some (knObj mb ib)) : (held b w).setCell ⟨b, 0, none⟩ (.int .i32 0) = w := by
  have hl := lt_heap h
  unfold held World.setCell
  cases w with
  | mk heap os tape output =>
    simp only [World.mk.injEq, and_true]
    apply Array.ext_getElem?
    intro j
    unfold knObj at h
    simp only [Array.getElem?_modify]
    by_cases hj : b = j
    · subst hj
      simp only [if_true, Option.map_map]
      simp at h
      simp [h]
    · simp [hj]
theorem held_heap {w : World} {b k : Nat} (h : k ≠ b) : (held b w).heap[k]? = w.heap[k]? := by
  unfold held
  exact heap_set_other (by exact h)
theorem held_obj {w : World} {b mb ib : Nat} (h : w.heap[b]? = some (knObj mb ib)) : (held b w).heap[b]? = some (.cells #[.int .i32 1, .int .u32 0, .map (some mb), .map (some ib)] 109) := by
  unfold held knObj at *
  simp [World.setCell, Array.getElem?_modify, h]
/-- Behind the lock: nothing has turned but what is new. -/
theorem lock_frame {w X : World} {b mb ib : Nat} (h : w.heap[b]? = some (knObj mb ib)) (K : Kp (fun _ => False) (held b w) X) :
    X.cell? ⟨b, 0, none⟩ = some (.int .i32 1) ∧ X.frozen? ⟨b, 0, none⟩ = false ∧ Kp (fun _ => False) w (X.setCell ⟨b, 0, none⟩ (.int .i32 0)) := by
  have hx := K.heap (held_obj h)
  have hl := lt_heap h
  have hs : (held b w).heap.size = w.heap.size := World.size_setCell _ _ _
  refine ⟨by simp [World.cell?, hx], by simp [World.frozen?, hx], K.os, K.tape, K.output, ?_, ?_⟩
  · rw [World.size_setCell, ← hs]; exact K.size
  · intro k hk _
    by_cases he : k = b
    · subst he
      rw [h]
      simp [World.setCell, Array.getElem?_modify, hx, knObj]
    · rw [heap_set_other (by exact he), K.block k (by omega) (by simp), held_heap he]
theorem mapT_ne {w : World} {b n : Nat} {m : List (Bs × Value)} (h : w.ownsMap Tryz.prog 9 Rv b n (dm m)) {k : Nat} {c : Array Value} {t : TypeId} (hk : w.heap[k]? = some (.cells c t)) : b ≠ k := by
  rintro rfl
  obtain ⟨es, cl, h1, _⟩ := h
  rw [hk] at h1
  cases h1
/-- The cells of a server. -/
def srvObj (qb : Nat) (t : Bs) : Obj := .cells #[.map (some qb), .string ⟨t.toArray⟩] 129
def kkV (p : Bs × Int) : Value := .agg #[.string ⟨p.1.toArray⟩, .int .i64 p.2]
set_option maxRecDepth 20000 in
set_option maxHeartbeats 4000000 in
/-- A key of a server that is not known. -/
theorem keyAt_no (w : World) (kb mb ib n : Nat) (sm : List (Bs × Value)) (hk : w.heap[kb]? = some (knObj mb ib)) (hm : w.ownsMap Tryz.prog 9 Rv mb n (dm sm)) (s i : Bs) (hs : s.length ≤ 9223372036854775807) (at' : Int) (hl : lookK s sm = none) :
    Calls Tryz.prog 37 #[.pointer (some ⟨kb, 0, none⟩), .string ⟨s.toArray⟩, .string ⟨i.toArray⟩, .int .i64 at'] w fun e w' => e = .returned (.tuple #[.string ⟨#[]⟩, .bool false]) ∧ w' = w := by
  obtain ⟨c0, c2, c3, f0⟩ := kn_facts hk
  obtain ⟨d0, d2, d3, g0⟩ := held_facts hk
  have hlk := mlook Tryz.underlying100 zSrv (held kb w) sm mb n s (by omega) (ownsMap_heap hm (held_heap (mapT_ne hm hk)))
  rw [hl] at hlk
  replace hlk : (Instr.lookup 100 (.map (some mb)) (.string ⟨s.toArray⟩) true).run Tryz.prog (held kb w) = .ok (.tuple #[.pointer none, .bool false]) (held kb w) := hlk
  have HB := hide (held_back hk)
  unfold held at *
  go_enter_defers Tryz.func37, Tryz.ntmps37
  go_wp2_with (go_at_call 52; refine (lock_free Tryz.muLib ⟨kb, 0, none⟩ _ c0 f0).mono ?_; rintro e w' ⟨rfl, rfl⟩)
  refine leaves_cons (f := 53) (args := #[.pointer (some ⟨kb, 0, none⟩)]) (by simp) (by simp [go_sem]) ?_
  refine (unlock_deferred Tryz.muLib ⟨kb, 0, none⟩ .returning _ d0 g0).mono ?_
  rintro e u' w'' ⟨rfl, rfl, rfl⟩
  exact ⟨_, results_tmp2 rfl _ _ _, rfl, HB.out⟩
end Go.Proofs.YtocligpfmfmihabGreatDoor
namespace Go.Proofs.YtocligpfmfmihabGreatDoor
open Go Go.RowKit Go.Maps Go.WideMaps Go.MuLone

theorem srv_facts {w : World} {sb qb : Nat} {t : Bs} (h : w.heap[sb]? = some (srvObj qb t)) : w.cell? ⟨sb, 0, none⟩ = some (.map (some qb)) ∧ w.cell? ⟨sb, 1, none⟩ = some (.string ⟨t.toArray⟩) ∧ w.frozen? ⟨sb, 1, none⟩ = false := by
  unfold srvObj at h
  refine ⟨?_, ?_, ?_⟩ <;> simp [World.cell?, World.frozen?, h]
theorem srv_ne {w : World} {sb qb kb mb ib : Nat} {t : Bs} (h : w.heap[sb]? = some (srvObj qb t)) (hk : w.heap[kb]? = some (knObj mb ib)) : sb ≠ kb := by
  rintro rfl
  rw [hk] at h
  unfold srvObj knObj at h
  injection h with h
  injection h with _ h2 _
  revert h2
  decide
set_option maxRecDepth 20000 in
set_option maxHeartbeats 4000000 in
/-- A key of a server that is known. -/
theorem keyAt_yes (w : World) (kb mb ib n sb qb qn : Nat) (t : Bs) (sm qm : List (Bs × Value)) (hk : w.heap[kb]? = some (knObj mb ib)) (hm : w.ownsMap Tryz.prog 9 Rv mb n (dm sm)) (s i : Bs) (hs : s.length ≤ 9223372036854775807) (hi : i.length ≤ 9223372036854775807) (at' : Int) (hl : lookK s sm = some (.pointer (some ⟨sb, 0, none⟩)))
    (hsv : w.heap[sb]? = some (srvObj qb t)) (hq : w.ownsMap Tryz.prog 9 Rv qb qn (dm qm)) (o : Option (Bs × Int)) (ho : lookK i qm = o.map kkV) :
    Calls Tryz.prog 37 #[.pointer (some ⟨kb, 0, none⟩), .string ⟨s.toArray⟩, .string ⟨i.toArray⟩, .int .i64 at'] w fun e w' => e = .returned (.tuple #[.string ⟨((o.bind fun p => if p.2 < at' then none else some p.1).getD []).toArray⟩, .bool (o.bind fun p => if p.2 < at' then none else some p.1).isSome]) ∧ Kp (fun _ => False) w w' := by
  obtain ⟨c0, c2, c3, f0⟩ := kn_facts hk
  obtain ⟨d0, d2, d3, g0⟩ := held_facts hk
  have hsv' : (held kb w).heap[sb]? = some (srvObj qb t) := (held_heap (srv_ne hsv hk)).trans hsv
  obtain ⟨s0, s1, _⟩ := srv_facts hsv'
  have hlk := mlook Tryz.underlying100 zSrv (held kb w) sm mb n s (by omega) (ownsMap_heap hm (held_heap (mapT_ne hm hk)))
  rw [hl] at hlk
  replace hlk : (Instr.lookup 100 (.map (some mb)) (.string ⟨s.toArray⟩) true).run Tryz.prog (held kb w) = .ok (.tuple #[.pointer (some ⟨sb, 0, none⟩), .bool true]) (held kb w) := hlk
  have hlq := mlook Tryz.underlying127 zKey (held kb w) qm qb qn i (by omega) (ownsMap_heap hq (held_heap (mapT_ne hq hk)))
  rw [ho] at hlq
  have HB := hide (fun o => lock_frame hk ((Kp.refl _ (held kb w)).alloc o))
  clear hk hm hq hsv hsv' hl ho
  cases o with
  | none =>
    replace hlq : (Instr.lookup 127 (.map (some qb)) (.string ⟨i.toArray⟩) true).run Tryz.prog (held kb w) = .ok (.tuple #[.agg #[.string ⟨#[]⟩, .int .i64 0], .bool false]) (held kb w) := hlq
    unfold held at *
    go_enter_defers Tryz.func37, Tryz.ntmps37
    go_wp2_with (go_at_call 52; refine (lock_free Tryz.muLib ⟨kb, 0, none⟩ _ c0 f0).mono ?_; rintro e w' ⟨rfl, rfl⟩)
    refine leaves_cons (f := 53) (args := #[.pointer (some ⟨kb, 0, none⟩)]) (by simp) (by simp [go_sem]) ?_
    refine (unlock_deferred Tryz.muLib ⟨kb, 0, none⟩ .returning _ (HB.out _).1 (HB.out _).2.1).mono ?_
    rintro e u' w'' ⟨rfl, rfl, rfl⟩
    exact ⟨_, results_tmp2 rfl _ _ _, rfl, (HB.out _).2.2⟩
  | some p =>
    obtain ⟨q, tl⟩ := p
    replace hlq : (Instr.lookup 127 (.map (some qb)) (.string ⟨i.toArray⟩) true).run Tryz.prog (held kb w) = .ok (.tuple #[.agg #[.string ⟨q.toArray⟩, .int .i64 tl], .bool true]) (held kb w) := hlq
    by_cases ht : tl < at'
    · have ht' : decide (at' > tl) = true := by simpa using ht
      have hz := hide (show ((some (q, tl)).bind fun p : Bs × Int => if p.2 < at' then none else some p.1) = none by simp [ht])
      clear ht
      unfold held at *
      go_enter_defers Tryz.func37, Tryz.ntmps37
      go_wp2_with (go_at_call 52; refine (lock_free Tryz.muLib ⟨kb, 0, none⟩ _ c0 f0).mono ?_; rintro e w' ⟨rfl, rfl⟩)
      refine leaves_cons (f := 53) (args := #[.pointer (some ⟨kb, 0, none⟩)]) (by simp) (by simp [go_sem]) ?_
      refine (unlock_deferred Tryz.muLib ⟨kb, 0, none⟩ .returning _ (HB.out _).1 (HB.out _).2.1).mono ?_
      rintro e u' w'' ⟨rfl, rfl, rfl⟩
      rw [hz.out]
      exact ⟨_, results_tmp2 rfl _ _ _, rfl, (HB.out _).2.2⟩
    · have ht' : decide (at' > tl) = false := by simpa using ht
      have hz := hide (show ((some (q, tl)).bind fun p : Bs × Int => if p.2 < at' then none else some p.1) = some q by simp [ht])
      clear ht
      unfold held at *
      go_enter_defers Tryz.func37, Tryz.ntmps37
      go_wp2_with (go_at_call 52; refine (lock_free Tryz.muLib ⟨kb, 0, none⟩ _ c0 f0).mono ?_; rintro e w' ⟨rfl, rfl⟩)
      refine leaves_cons (f := 53) (args := #[.pointer (some ⟨kb, 0, none⟩)]) (by simp) (by simp [go_sem]) ?_
      refine (unlock_deferred Tryz.muLib ⟨kb, 0, none⟩ .returning _ (HB.out _).1 (HB.out _).2.1).mono ?_
      rintro e u' w'' ⟨rfl, rfl, rfl⟩
      rw [hz.out]
      exact ⟨_, results_tmp2 rfl _ _ _, rfl, (HB.out _).2.2⟩
end Go.Proofs.YtocligpfmfmihabGreatDoor
namespace Go.Proofs.YtocligpfmfmihabGreatDoor
open Go Go.RowKit

/-- A call of a function, and of nothing else. -/
theorem step_callF {P : Program} {ops : Array Oper} {o : Oper} {a : Act} {w : World} {K : Act → World → Prop} {Q : Exit → Act → World → Prop} {E : Prop} (hgd : o.guard = none) (f : FuncId) (xs : Array Operand) (ts : Array TypeId) (_ : o.op = .call { callee := .value (.func f), args := xs, argTypes := ts }) (args : Array Value)
    (hrun : (execOp a.eval o).run P w = .ok (.enter f args) w)
    (h : Calls P f args w fun | .returned v, w'' => K (a.put o.dst v) w'' | .panicked chain, w'' => Q (.panic chain) a w'' | .outgrown, _ => LetsOut Q) :
    if Region.wanted o (yielded ops a.tmps) = true then Oper.wp P o a w K Q else E := step_call hgd f args hrun h
/-- Where nothing panics. -/
def noP (Q : Exit → Act → World → Prop) : Exit → Act → World → Prop := fun ex a w => match ex with | .panic _ => False | e => Q e a w
theorem wp_noP {P : Program} {c : Code} {Q : Exit → Act → World → Prop} {a : Act} {w : World} (h : Code.wp P c (noP Q) a w) : Code.wp P c Q a w :=
  Code.wp_mono (fun e _ _ h => by cases e <;> first | exact h | exact h.elim) h
theorem noP_normal {Q : Exit → Act → World → Prop} {a : Act} {w : World} (h : Q .normal a w) : noP Q .normal a w := h
end Go.Proofs.YtocligpfmfmihabGreatDoor
namespace Go.Proofs.YtocligpfmfmihabGreatDoor
open Go Go.RowKit Go.Maps Go.WideMaps Go.MuLone
attribute [local go_sem] Oper.semAt_some

theorem trusted_c (now : Int) (h0 : -9223372036854775808 ≤ now) (w : World) : Calls Tryz.prog 95 #[.int .i64 now] w fun e w' => e = .returned (.int .i64 (capF now)) ∧ w' = w := by
  unfold capF
  by_cases h : 9223372036854774807 < now
  · have h' : decide (now > 9223372036854774807) = true := by simpa using h
    rw [if_pos h]
    clear h
    go_enter Tryz.func95, Tryz.ntmps95
    go_wp2
    go_ret
    exact ⟨rfl, rfl⟩
  · have h' : decide (now > 9223372036854774807) = false := by simpa using h
    rw [if_neg h]
    go_enter Tryz.func95, Tryz.ntmps95
    go_wp2
    go_ret
    exact ⟨rfl, rfl⟩
set_option maxRecDepth 20000 in
theorem lastMoment_c (k : Ky) (now : Int) (h0 : -9223372036854775808 ≤ now) (w : World) : Calls Tryz.prog 62 #[.agg (kyC k).toArray, .int .i64 now] w fun e w' => e = .returned (.int .i64 (tillF now k)) ∧ Kp (fun _ => False) w w' := by
  have K0 : Kp (fun _ => False) w (w.alloc (.cells (kyC k).toArray 148)) := (Kp.refl _ _).alloc _
  unfold tillF
  unfold kyC at *
  have HO := hide K0
  clear K0
  generalize hko : k.old = ko at *
  cases ko with
  | true =>
    go_enter Tryz.func62, Tryz.ntmps62
    go_wp2_with fail
    go_ret
    exact ⟨rfl, HO.out⟩
  | false =>
    go_enter Tryz.func62, Tryz.ntmps62
    go_wp2_with fail
    go_region_law (refine step_callF rfl 95 _ _ rfl #[.int .i64 now] (by go_simp) ?_; refine (trusted_c now h0 _).mono ?_; rintro e w' ⟨rfl, rfl⟩)
    all_goals go_wp2
    all_goals go_ret
    all_goals exact ⟨rfl, HO.out.drewN _⟩
end Go.Proofs.YtocligpfmfmihabGreatDoor

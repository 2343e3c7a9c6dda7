import Derived.Test.YtocligpfmfmihabGreatDoorChn3w
import Derived.Test.YtocligpfmfmihabGreatDoorChn4w
import Derived.Test.YtocligpfmfmihabGreatDoorChn5wG
import Derived.Test.YtocligpfmfmihabGreatDoorPr2G
import Derived.Test.YtocligpfmfmihabGreatDoorHon5G
namespace Go.Proofs.YtocligpfmfmihabGreatDoor
open Go Go.RowKit

/-- The number of a chain of errors. -/
inductive ErrCode (W : World) (a : Addr) (ks : List (Lk × ByteArray)) : Nat → Prop
  | doc (p : Lk × ByteArray) : ks.find? (fun p => p.1 == Lk.doc) = some p → ErrCode W a ks 4
  | conf : ks.find? (fun p => p.1 == Lk.doc) = none → W.cell? ⟨5, 0, none⟩ = some (errV a) → ErrCode W a ks 6
  | evt (p : Lk × ByteArray) : ks.find? (fun p => p.1 == Lk.doc) = none → W.cell? ⟨5, 0, none⟩ ≠ some (errV a) → ks.find? (fun p => p.1 == Lk.evt) = some p → ErrCode W a ks 7
  | unk : ks.find? (fun p => p.1 == Lk.doc) = none → W.cell? ⟨5, 0, none⟩ ≠ some (errV a) → ks.find? (fun p => p.1 == Lk.evt) = none → W.cell? ⟨1, 0, none⟩ = some (errV a) → ErrCode W a ks 8
  | other : ks.find? (fun p => p.1 == Lk.doc) = none → W.cell? ⟨5, 0, none⟩ ≠ some (errV a) → ks.find? (fun p => p.1 == Lk.evt) = none → W.cell? ⟨1, 0, none⟩ ≠ some (errV a) → ErrCode W a ks 5
/-- An error that is a chain, with its number. -/
def Chd (W w : World) (ev : Value) (n : Nat) : Prop := ∃ a ks, Chn w a ks ev ∧ (∃ c t, W.heap[a.block]? = some (.cells c t)) ∧ W.cell? ⟨3, 0, none⟩ ≠ some (errV a) ∧ W.cell? ⟨4, 0, none⟩ ≠ some (errV a) ∧ ErrCode W a ks n
set_option maxRecDepth 20000 in
set_option maxHeartbeats 4000000 in
/-- errno on a chain. -/
theorem errno_chn (W : World) (hN : NG2 W) (w : World) (hW : Below W.heap.size W w) (ev : Value) (n : Nat) (hh : Chd W w ev n) :
    Calls Tryz.prog 30 #[ev] w fun e w' => e = .returned (.int .i64 n) ∧ Kp (fun _ => False) w w' := by
  obtain ⟨a, ks, hch, ⟨ca, ta, hba⟩, hl, ho, hn⟩ := hh
  obtain ⟨al, cl, tl, hal, hbl⟩ := hN.lay 3 (by simp [four])
  obtain ⟨ao, co, tob, hao, hbo⟩ := hN.lay 4 (by simp [four])
  obtain ⟨ac, cc, tc, hac, hbc⟩ := hN.lay 5 (by simp [four])
  obtain ⟨au, cu, tu, hau, hbu⟩ := hN.lay 1 (by simp [four])
  have n1 : a ≠ al := by rintro rfl; exact hl hal
  have n2 : a ≠ ao := by rintro rfl; exact ho hao
  have C1 : Hid (∀ w', Kp (fun _ => False) w w' → Chn w' a ks ev ∧ w'.heap[a.block]? = some (.cells ca ta) ∧ w'.heap[al.block]? = some (.cells cl tl) ∧ w'.heap[ao.block]? = some (.cells co tob) ∧ w'.heap[ac.block]? = some (.cells cc tc) ∧ w'.heap[au.block]? = some (.cells cu tu)) :=
    fun w' hk => ⟨hch.kp hk, hk.heap (Below.hp hW hba), hk.heap (Below.hp hW hbl), hk.heap (Below.hp hW hbo), hk.heap (Below.hp hW hbc), hk.heap (Below.hp hW hbu)⟩
  have C2 : Hid (∀ w', Kp (fun _ => False) w w' → w'.cell? ⟨3, 0, none⟩ = some (errV al) ∧ w'.cell? ⟨4, 0, none⟩ = some (errV ao) ∧ w'.cell? ⟨5, 0, none⟩ = some (errV ac) ∧ w'.cell? ⟨1, 0, none⟩ = some (errV au) ∧ w'.cell? ⟨6, 0, none⟩ = some (.iface 237 ((Value.agg #[Value.pointer (some (Addr.mk 31 58 none))])))) :=
    fun w' hk => ⟨hk.cel (Below.cl hW hal), hk.cel (Below.cl hW hao), hk.cel (Below.cl hW hac), hk.cel (Below.cl hW hau), hk.cel (Below.cl hW hN.ng.ety)⟩
  have hcf : W.cell? ⟨5, 0, none⟩ = some (errV a) ↔ ac = a := by
    rw [hac]
    constructor
    · intro h
      unfold errV at h
      injection h with h
      injection h with _ h
      injection h with h
      injection h
    · rintro rfl; rfl
  have huk : W.cell? ⟨1, 0, none⟩ = some (errV a) ↔ au = a := by
    rw [hau]
    constructor
    · intro h
      unfold errV at h
      injection h with h
      injection h with _ h
      injection h with h
      injection h
    · rintro rfl; rfl
  have HN := hide (And.intro hn (And.intro hcf huk))
  have K1 := w3_kp w
  obtain ⟨i1, i2, i3⟩ := three_new w (.cells #[.pointer none] 130) (.cells #[.pointer none] 131) (.cells #[.pointer none] 111)
  have hw3 : w3 w = ((w.alloc (.cells #[.pointer none] 130)).alloc (.cells #[.pointer none] 131)).alloc (.cells #[.pointer none] 111) := rfl
  have c1 := (C2.out _ K1).1
  obtain ⟨t0, u0, hev⟩ := hch.iface
  clear hch hba hbl hbo hbc hbu hal hao hac hau hl ho hn hcf huk
  subst hev
  rw [hw3] at K1 c1
  clear hw3
  unfold errV at c1
  go_enter Tryz.func30, Tryz.ntmps30
  go_wp2_with fail
  generalize (((w.alloc (.cells #[.pointer none] 130)).alloc (.cells #[.pointer none] 131)).alloc (.cells #[.pointer none] 111)) = w1 at *
  refine (is_ne w1 a al ks _ (C1.out _ K1).1 n1 _ _ _ _ (C1.out _ K1).2.1 (C1.out _ K1).2.2.1).mono ?_
  rintro e w' ⟨rfl, rfl⟩
  go_wp2_with fail
  refine (as_flt _ a ks _ (C1.out _ K1).1 w.heap.size _ (C2.out _ K1).2.2.2.2 i1).mono ?_
  rintro e w2 ⟨k2, h2⟩
  replace h2 : e = .returned (.bool false) := h2
  subst h2
  have K2 : Kp (fun _ => False) w w2 := K1.and k2 (by intro i hi e; omega)
  have j2 := (k2.block _ (lt_heap i2) (by omega)).trans i2
  have j3 := (k2.block _ (lt_heap i3) (by omega)).trans i3
  have c2 := (C2.out _ K2).2.1
  unfold errV at c2
  clear k2 i1 i2 i3 c1 K1
  go_wp2_with fail
  refine (is_ne _ a ao ks _ (C1.out _ K2).1 n2 _ _ _ _ (C1.out _ K2).2.1 (C1.out _ K2).2.2.2.1).mono ?_
  rintro e w' ⟨rfl, rfl⟩
  go_wp2_with fail
  refine (as_doc _ a ks _ (C1.out _ K2).1 (w.heap.size + 1) _ (C2.out _ K2).2.2.2.2 j2).mono ?_
  rintro e w3 ⟨k3, h3⟩
  have K3 : Kp (fun _ => False) w w3 := K2.and k3 (by intro i hi e; omega)
  have j33 := (k3.block _ (lt_heap j3) (by omega)).trans j3
  have c3 := (C2.out _ K3).2.2.1
  unfold errV at c3
  clear k3 c2 K2 j2 j3
  cases hfd : ks.find? (fun p => p.1 == Lk.doc) with
  | some p =>
    rw [hfd] at h3
    have h4 := h3.1
    subst h4
    have hn4 := hide (show n = 4 by cases HN.out.1 <;> simp_all)
    have HK := hide K3
    clear h3 hfd K3
    go_wp2
    go_ret
    rw [hn4.out]
    exact ⟨rfl, HK.out⟩
  | none =>
    rw [hfd] at h3
    replace h3 : e = .returned (.bool false) := h3
    subst h3
    have HFD := hide hfd
    clear hfd
    go_wp2_with fail
    by_cases hac : ac = a
    · have hn4 := hide (show n = 6 by
        have h1 := HN.out.2.1.2 hac
        have h2 := HFD.out
        cases HN.out.1 <;> simp_all)
      subst hac
      refine (is_eq _ ac ks _ (C1.out _ K3).1).mono ?_
      rintro e w' ⟨rfl, rfl⟩
      have HK := hide K3
      clear K3
      go_wp2
      go_ret
      rw [hn4.out]
      exact ⟨rfl, HK.out⟩
    · refine (is_ne _ a ac ks _ (C1.out _ K3).1 (Ne.symm hac) _ _ _ _ (C1.out _ K3).2.1 (C1.out _ K3).2.2.2.2.1).mono ?_
      rintro e w' ⟨rfl, rfl⟩
      have HC := hide (fun h => hac (HN.out.2.1.1 h))
      clear hac
      go_wp2_with fail
      refine (as_evt _ a ks _ (C1.out _ K3).1 (w.heap.size + 1 + 1) _ (C2.out _ K3).2.2.2.2 j33).mono ?_
      rintro e w4 ⟨k4, h4⟩
      have K4 : Kp (fun _ => False) w w4 := K3.and k4 (by intro i hi e; omega)
      have c4 := (C2.out _ K4).2.2.2.1
      unfold errV at c4
      clear k4 c3 K3 j33
      cases hfe : ks.find? (fun p => p.1 == Lk.evt) with
      | some p =>
        rw [hfe] at h4
        have h5 := h4.1
        subst h5
        have hn4 := hide (show n = 7 by
          have h1 := HC.out
          have h2 := HFD.out
          cases HN.out.1 <;> simp_all)
        have HK := hide K4
        clear h4 hfe K4
        go_wp2
        go_ret
        rw [hn4.out]
        exact ⟨rfl, HK.out⟩
      | none =>
        rw [hfe] at h4
        replace h4 : e = .returned (.bool false) := h4
        subst h4
        have HFE := hide hfe
        clear hfe
        go_wp2_with fail
        by_cases hau : au = a
        · have hn4 := hide (show n = 8 by
            have h0 := HC.out
            have h1 := HN.out.2.2.2 hau
            have h2 := HFD.out
            have h3 := HFE.out
            cases HN.out.1 <;> simp_all)
          subst hau
          refine (is_eq _ au ks _ (C1.out _ K4).1).mono ?_
          rintro e w' ⟨rfl, rfl⟩
          have HK := hide K4
          clear K4
          go_wp2
          go_ret
          rw [hn4.out]
          exact ⟨rfl, HK.out⟩
        · refine (is_ne _ a au ks _ (C1.out _ K4).1 (Ne.symm hau) _ _ _ _ (C1.out _ K4).2.1 (C1.out _ K4).2.2.2.2.2).mono ?_
          rintro e w' ⟨rfl, rfl⟩
          have hn4 := hide (show n = 5 by
            have h0 := HC.out
            have h1 := fun h => hau (HN.out.2.2.1 h)
            have h2 := HFD.out
            have h3 := HFE.out
            cases HN.out.1 <;> simp_all)
          have HK := hide K4
          clear K4 hau
          go_wp2
          go_ret
          rw [hn4.out]
          exact ⟨rfl, HK.out⟩
/-- A chain of members. -/
theorem Ech.chain {W w : World} {ev : Value} (h : Ech W w ev) : ∃ a ks, Chn w a ks ev ∧ Plain W a ∧ ∀ p ∈ ks, p.1 = Lk.mem := by
  induction h with
  | base a h => exact ⟨a, [], .nil, h, by simp⟩
  | mem b s ev hb _ ih =>
    obtain ⟨a, ks, h1, h2, h3⟩ := ih
    exact ⟨a, (.mem, s) :: ks, .cons .mem ks b s ev hb h1, h2, by
      intro p hp
      rcases List.mem_cons.1 hp with rfl | hp
      · rfl
      · exact h3 p hp⟩
theorem find_mem {ks : List (Lk × ByteArray)} (h : ∀ p ∈ ks, p.1 = Lk.mem) (k : Lk) (hk : k ≠ Lk.mem) : ks.find? (fun p => p.1 == k) = none := by
  rw [List.find?_eq_none]
  intro p hp
  rw [h p hp]
  simp [Ne.symm hk]
theorem Ech.sig {W w : World} {ev : Value} (h : Ech W w ev) : Chd W w ev 5 := by
  obtain ⟨a, ks, h1, h2, h3⟩ := h.chain
  exact ⟨a, ks, h1, h2.1, h2.2 _ (by simp [four]), h2.2 _ (by simp [four]), .other (find_mem h3 _ (by decide)) (h2.2 _ (by simp [four])) (find_mem h3 _ (by decide)) (h2.2 _ (by simp [four]))⟩
theorem Ech.docu {W w : World} {b : Nat} {ev : Value} (h : Ech W w ev) (hb : w.heap[b]? = some (.cells #[ev] 144)) : Chd W w (.iface 131 (.pointer (some ⟨b, 0, none⟩))) 4 := by
  obtain ⟨a, ks, h1, h2, h3⟩ := h.chain
  exact ⟨a, (.doc, ⟨#[]⟩) :: ks, .cons .doc ks b ⟨#[]⟩ ev hb h1, h2.1, h2.2 _ (by simp [four]), h2.2 _ (by simp [four]), .doc (.doc, ⟨#[]⟩) (by simp)⟩
/-- An error with its number. -/
def Enr (W w : World) (ev : Value) (n : Nat) : Prop := EV W w ev n ∨ Chd W w ev n
theorem errno_a (W : World) (hN : NG2 W) (w : World) (hW : Below W.heap.size W w) (ev : Value) (n : Nat) (hh : Enr W w ev n) :
    Calls Tryz.prog 30 #[ev] w fun e w' => e = .returned (.int .i64 n) ∧ Kp (fun _ => False) w w' := by
  rcases hh with h | h
  · exact errno_c W hN.ng w hW ev n h
  · exact errno_chn W hN w hW ev n h
theorem Chd.up {W w w' : World} {ev : Value} {n : Nat} (h : Chd W w ev n) (hk : Kp (fun _ => False) w w') : Chd W w' ev n := by
  obtain ⟨a, ks, h1, h2⟩ := h
  exact ⟨a, ks, h1.kp hk, h2⟩
end Go.Proofs.YtocligpfmfmihabGreatDoor
namespace Go.Proofs.YtocligpfmfmihabGreatDoor
open Go Go.RowKit Go.Maps Go.WideMaps Go.MuLone
attribute [local go_sem] Oper.semAt_some

/-- A server in memory: its keys are f, its last document t. -/
structure SV (w : World) (sb qb : Nat) (t : Bs) (qm : List (Bs × Value)) (f : Bs → Option (Bs × Int)) : Prop where
  blk : w.heap[sb]? = some (srvObj qb t)
  own : w.ownsMap Tryz.prog 9 Rv qb qm.length (dm qm)
  srt : Srt qm
  look : ∀ i, lookK i qm = (f i).map kkV
theorem SV.frame {w w' : World} {sb qb : Nat} {t : Bs} {qm : List (Bs × Value)} {f : Bs → Option (Bs × Int)} (h : SV w sb qb t qm f) (h1 : w'.heap[sb]? = w.heap[sb]?) (h2 : w'.heap[qb]? = w.heap[qb]?) : SV w' sb qb t qm f :=
  ⟨h1.trans h.blk, ownsMap_heap h.own h2, h.srt, h.look⟩
theorem SV.kp {w w' : World} {sb qb : Nat} {t : Bs} {qm : List (Bs × Value)} {f : Bs → Option (Bs × Int)} (h : SV w sb qb t qm f) (hk : Kp (fun _ => False) w w') : SV w' sb qb t qm f :=
  h.frame (hk.block _ (lt_heap h.blk) (by simp)) (hk.block _ h.own.lt (by simp))
theorem SV.ne {w : World} {sb qb : Nat} {t : Bs} {qm : List (Bs × Value)} {f : Bs → Option (Bs × Int)} (h : SV w sb qb t qm f) : qb ≠ sb := mapT_ne h.own (by exact h.blk)
/-- The keys of a server behind trust. -/
def updF (now : Int) (f : Bs → Option (Bs × Int)) (k : Ky) : Bs → Option (Bs × Int) := fun i => if i = k.id then some (k.key, match f k.id with | some p => max (tillF now k) p.2 | none => tillF now k) else f i
theorem lookK_ins {α : Type} (k : Bs) (v : α) (l : List (Bs × α)) (i : Bs) : lookK i (insK k v l) = if i = k then some v else lookK i l := by
  induction l with
  | nil => simp [insK, lookK, eq_comm]
  | cons p l ih =>
    obtain ⟨a, x⟩ := p
    unfold insK
    split
    · simp only [lookK]
      by_cases h : k = i
      · subst h; simp
      · rw [if_neg h, if_neg (Ne.symm h)]
    · split
      · rename_i e
        subst e
        simp only [lookK]
        by_cases h : a = i
        · subst h; simp
        · rw [if_neg h, if_neg (Ne.symm h), if_neg h]
      · rename_i hlt hne
        simp only [lookK]
        by_cases h : a = i
        · subst h
          rw [if_pos rfl, if_pos rfl, if_neg hne]
        · rw [if_neg h, if_neg h, ih]
theorem insK_len {α : Type} (k : Bs) (v : α) (l : List (Bs × α)) : (insK k v l).length ≤ l.length + 1 := by
  induction l with
  | nil => simp [insK]
  | cons p l ih =>
    obtain ⟨a, x⟩ := p
    unfold insK
    split
    · simp
    · split
      · simp
      · simp; omega
theorem trust_end {w w1 w9 : World} {sb qb : Nat} {t : Bs} {qm : List (Bs × Value)} {f : Bs → Option (Bs × Int)} {k : Ky} {now tl : Int} (K : Kp (fun _ => False) w w1) (hs : SV w1 sb qb t qm f) (o9 : w9.ownsMap Tryz.prog 9 Rv qb (qm.length + 1) (dm (insK k.id (.agg #[.string ⟨k.key.toArray⟩, .int .i64 tl]) qm))) (g9 : w1.drew.grownBy w9 (some qb)) (ht : tl = match f k.id with | some p => max (tillF now k) p.2 | none => tillF now k) :
    Ending.returned (.tuple #[]) = .returned (.tuple #[]) ∧ Kp (fun j => j = qb) w w9 ∧ ∃ qm', SV w9 sb qb t qm' (updF now f k) ∧ qm'.length ≤ qm.length + 1 := by
  refine ⟨rfl, ?_, insK k.id (.agg #[.string ⟨k.key.toArray⟩, .int .i64 tl]) qm, ⟨?_, ownsMap_tight o9, srt_insK _ _ _ hs.srt, ?_⟩, insK_len _ _ _⟩
  · exact ((K.mono (fun _ _ h => h.elim)).drew).grown g9 (fun j e _ => by cases e; rfl)
  · have hne := hs.ne
    rw [g9.block sb (lt_heap hs.blk) (by intro e; injection e with e; exact hne e.symm)]
    exact hs.blk
  · intro i
    rw [lookK_ins, hs.look]
    unfold updF
    by_cases hi : i = k.id
    · rw [if_pos hi, if_pos hi, ← ht]
      rfl
    · rw [if_neg hi, if_neg hi]
set_option maxRecDepth 20000 in
set_option maxHeartbeats 4000000 in
theorem trust_c (w : World) (sb qb : Nat) (t : Bs) (qm : List (Bs × Value)) (f : Bs → Option (Bs × Int)) (hs : SV w sb qb t qm f) (k : Ky) (hk : k.id.length ≤ 2000000) (hq : qm.length ≤ 300000000000000000) (now : Int) :
    Calls Tryz.prog 61 #[.pointer (some ⟨sb, 0, none⟩), .agg (kyC k).toArray, .int .i64 (tillF now k)] w fun e w' => e = .returned (.tuple #[]) ∧ Kp (fun j => j = qb) w w' ∧ ∃ qm', SV w' sb qb t qm' (updF now f k) ∧ qm'.length ≤ qm.length + 1 := by
  unfold kyC
  have K0 : Kp (fun _ => False) w (w.alloc (.cells #[.string ⟨k.id.toArray⟩, .string ⟨k.key.toArray⟩, .bool k.old, .int .i64 k.till] 148)) := (Kp.refl _ _).alloc _
  have hs0 := hs.kp K0
  obtain ⟨s0, s1, _⟩ := srv_facts hs0.blk
  have I0 := heap_alloc_new w (.cells #[.string ⟨k.id.toArray⟩, .string ⟨k.key.toArray⟩, .bool k.old, .int .i64 k.till] 148)
  obtain ⟨k0, k1, k2, k3, _, _, _, _, hkb⟩ := kfacts I0
  go_enter Tryz.func61, Tryz.ntmps61
  go_wp2_with fail
  generalize (w.alloc (.cells #[.string ⟨k.id.toArray⟩, .string ⟨k.key.toArray⟩, .bool k.old, .int .i64 k.till] 148)) = w0 at *
  have hl1 := mlook Tryz.underlying127 zKey w0.drew qm qb qm.length k.id (by omega) (ownsMap_heap hs0.own rfl)
  have hl2 := mlook Tryz.underlying127 zKey (w0.alloc (.cells #[.string ⟨#[]⟩, .int .i64 0] 152)).drew qm qb qm.length k.id (by omega) (ownsMap_heap hs0.own (by exact Below.heap_alloc w0 _ _ hs0.own.lt))
  rw [hs0.look] at hl1 hl2
  have hsl := lt_heap hs0.blk
  have HS := hide hs0
  clear hs0 hs
  cases hf : f k.id with
  | none =>
    rw [hf] at hl1 hl2
    replace hl1 : (Instr.lookup 127 (.map (some qb)) (.string ⟨k.id.toArray⟩) true).run Tryz.prog w0.drew = .ok (.tuple #[.agg #[.string ⟨#[]⟩, .int .i64 0], .bool false]) w0.drew := hl1
    replace hl2 : (Instr.lookup 127 (.map (some qb)) (.string ⟨k.id.toArray⟩) true).run Tryz.prog (w0.alloc (.cells #[.string ⟨#[]⟩, .int .i64 0] 152)).drew = .ok (.tuple #[.agg #[.string ⟨#[]⟩, .int .i64 0], .bool false]) (w0.alloc (.cells #[.string ⟨#[]⟩, .int .i64 0] 152)).drew := hl2
    go_region
    all_goals
      have Kx : Kp (fun _ => False) w0 (w0.alloc (.cells #[.string ⟨#[]⟩, .int .i64 0] 152)).drew := ((Kp.refl _ _).alloc _).drew
      have hs1 := HS.out.kp Kx
      have I1 := Kx.heap I0
      have HK := hide (K0.trans Kx)
      go_wp2
      generalize (w0.alloc (.cells #[.string ⟨#[]⟩, .int .i64 0] 152)).drew = w1 at *
      clear s0 s1 k0 k1 k2 k3 hl1 hl2 I0 K0 Kx
      obtain ⟨s0, s1, _⟩ := srv_facts hs1.blk
      obtain ⟨k0, k1, k2, k3, _, _, _, _, hkb⟩ := kfacts I1
      obtain ⟨w9, hup, o9, g9⟩ := (show w1.drew.ownsMap Tryz.prog 9 Rv qb qm.length (dm qm) from ownsMap_heap hs1.own rfl).update keyed Tryz.underlying127 (by unfold maxLen; omega) (key_mk2 (show k.id.length ≤ 139000000000000 by omega)) (show Rv (.agg #[.string ⟨k.key.toArray⟩, .int .i64 (tillF now k)]) = some (.held (.agg #[.string ⟨k.key.toArray⟩, .int .i64 (tillF now k)]), []) from rfl)
      rw [dm_put k.id _ qm hs1.srt] at o9
      have HF := hide (And.intro hs1 (And.intro o9 (And.intro g9 hf)))
      clear hs1 o9 g9 hf
      go_region
      all_goals go_wp2
      all_goals go_end0
      all_goals exact trust_end HK.out HF.out.1 HF.out.2.1 HF.out.2.2.1 (by rw [HF.out.2.2.2])
  | some p =>
    obtain ⟨pq, pt⟩ := p
    rw [hf] at hl1 hl2
    replace hl1 : (Instr.lookup 127 (.map (some qb)) (.string ⟨k.id.toArray⟩) true).run Tryz.prog w0.drew = .ok (.tuple #[.agg #[.string ⟨pq.toArray⟩, .int .i64 pt], .bool true]) w0.drew := hl1
    replace hl2 : (Instr.lookup 127 (.map (some qb)) (.string ⟨k.id.toArray⟩) true).run Tryz.prog (w0.alloc (.cells #[.string ⟨#[]⟩, .int .i64 0] 152)).drew = .ok (.tuple #[.agg #[.string ⟨pq.toArray⟩, .int .i64 pt], .bool true]) (w0.alloc (.cells #[.string ⟨#[]⟩, .int .i64 0] 152)).drew := hl2
    go_region
    all_goals
      have Kx : Kp (fun _ => False) w0 (w0.alloc (.cells #[.string ⟨pq.toArray⟩, .int .i64 pt] 152)).drew := ((Kp.refl _ _).alloc _).drew
      have Ix : (w0.alloc (.cells #[.string ⟨pq.toArray⟩, .int .i64 pt] 152)).drew.heap[w0.heap.size]? = some (.cells #[.string ⟨pq.toArray⟩, .int .i64 pt] 152) := heap_alloc_new w0 _
      have hs1 := HS.out.kp Kx
      have I1 := Kx.heap I0
      have HK := hide (K0.trans Kx)
      obtain ⟨x0, x1⟩ := two_cells Ix
      generalize (w0.alloc (.cells #[.string ⟨pq.toArray⟩, .int .i64 pt] 152)).drew = w1 at *
      clear s0 s1 k0 k1 k2 k3 hl1 hl2 I0 K0 Kx
      obtain ⟨s0, s1, _⟩ := srv_facts hs1.blk
      obtain ⟨k0, k1, k2, k3, _, _, _, _, hkb⟩ := kfacts I1
      obtain ⟨w9, hup, o9, g9⟩ := (show w1.drew.ownsMap Tryz.prog 9 Rv qb qm.length (dm qm) from ownsMap_heap hs1.own rfl).update keyed Tryz.underlying127 (by unfold maxLen; omega) (key_mk2 (show k.id.length ≤ 139000000000000 by omega)) (show Rv (.agg #[.string ⟨k.key.toArray⟩, .int .i64 (max (tillF now k) pt)]) = some (.held (.agg #[.string ⟨k.key.toArray⟩, .int .i64 (max (tillF now k) pt)]), []) from rfl)
      rw [dm_put k.id _ qm hs1.srt] at o9
      have HF := hide (And.intro hs1 (And.intro o9 (And.intro g9 hf)))
      clear hs1 o9 g9 hf
      go_wp2
      go_region
      all_goals go_wp2
      all_goals go_end0
      all_goals exact trust_end HK.out HF.out.1 HF.out.2.1 HF.out.2.2.1 (by rw [HF.out.2.2.2])
end Go.Proofs.YtocligpfmfmihabGreatDoor

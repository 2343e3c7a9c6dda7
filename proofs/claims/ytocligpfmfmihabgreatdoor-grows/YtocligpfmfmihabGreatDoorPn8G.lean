import Derived.Test.YtocligpfmfmihabGreatDoorPn7
import Derived.Test.YtocligpfmfmihabGreatDoorPr12G
import Derived.Test.YtocligpfmfmihabGreatDoorHon2G
import Derived.Deep.RegionHeld
import Derived.Test.YtocligpfmfmihabGreatDoorWrt2G
namespace Go.Proofs.YtocligpfmfmihabGreatDoor
open Go Go.RowKit Go.Maps Go.WideMaps Go.MuLone
attribute [local go_sem] Oper.semAt_some

/-- The cells of a notary. -/
def ntObj (nm id ky : Bs) (so : Value) (kb : Nat) : Obj := .cells #[.string ⟨nm.toArray⟩, .string ⟨id.toArray⟩, .string ⟨ky.toArray⟩, so, .pointer (some ⟨kb, 0, none⟩)] 55
theorem nt_facts {w : World} {b kb : Nat} {nm id ky : Bs} {so : Value} (h : w.heap[b]? = some (ntObj nm id ky so kb)) : w.cell? ⟨b, 0, none⟩ = some (.string ⟨nm.toArray⟩) ∧ w.cell? ⟨b, 1, none⟩ = some (.string ⟨id.toArray⟩) ∧ w.cell? ⟨b, 2, none⟩ = some (.string ⟨ky.toArray⟩) ∧ w.cell? ⟨b, 3, none⟩ = some so ∧ w.cell? ⟨b, 4, none⟩ = some (.pointer (some ⟨kb, 0, none⟩)) := by
  unfold ntObj at h
  refine ⟨?_, ?_, ?_, ?_, ?_⟩ <;> simp [World.cell?, h]
/-- A notary of the program. -/
structure PNs (w : World) (F Fk : Nat → Prop) (nb kb : Nat) (nm id ky : Bs) (so : Value) (srcs : List Bs) (st : Ldg) (c : Nat) : Prop where
  nblk : w.heap[nb]? = some (ntObj nm id ky so kb)
  kn : KN w Fk kb st c
  rso : w.ownsRow 0 9 1 so srcs.length (srcs.map fun s => .string ⟨s.toArray⟩)
  fn : F nb
  fso : ∀ k, so.ownBlock = some k → F k ∧ ¬ Fk k
  fk : ∀ k, Fk k → F k
  nf : ¬ Fk nb
  lt : ∀ k, F k → k < w.heap.size
def PN (w : World) (F : Nat → Prop) (nb : Nat) (nm id ky : Bs) (srcs : List Bs) (st : Ldg) (c : Nat) : Prop := ∃ Fk kb so, PNs w F Fk nb kb nm id ky so srcs st c
theorem PNs.frame {w w' : World} {F Fk : Nat → Prop} {nb kb : Nat} {nm id ky : Bs} {so : Value} {srcs : List Bs} {st : Ldg} {c : Nat} (h : PNs w F Fk nb kb nm id ky so srcs st c) (hs : w.heap.size ≤ w'.heap.size) (hk : ∀ k, F k → w'.heap[k]? = w.heap[k]?) : PNs w' F Fk nb kb nm id ky so srcs st c :=
  ⟨(hk nb h.fn).trans h.nblk, h.kn.frame (fun k hf => hk k (h.fk k hf)), ownsRow_heap h.rso (fun k e => hk k (h.fso k e).1), h.fn, h.fso, h.fk, h.nf, fun k hf => Nat.lt_of_lt_of_le (h.lt k hf) hs⟩
theorem PN.frame {w w' : World} {F : Nat → Prop} {nb : Nat} {nm id ky : Bs} {srcs : List Bs} {st : Ldg} {c : Nat} (h : PN w F nb nm id ky srcs st c) (hs : w.heap.size ≤ w'.heap.size) (hk : ∀ k, F k → w'.heap[k]? = w.heap[k]?) : PN w' F nb nm id ky srcs st c := by
  obtain ⟨Fk, kb, so, h⟩ := h
  exact ⟨Fk, kb, so, h.frame hs hk⟩
theorem PNs.kp {w w' : World} {F Fk : Nat → Prop} {nb kb : Nat} {nm id ky : Bs} {so : Value} {srcs : List Bs} {st : Ldg} {c : Nat} (h : PNs w F Fk nb kb nm id ky so srcs st c) (hk : Kp (fun _ => False) w w') : PNs w' F Fk nb kb nm id ky so srcs st c :=
  h.frame hk.size (fun k hf => hk.block k (h.lt k hf) (by simp))
theorem PNs.mono {w : World} {F Fk : Nat → Prop} {nb kb : Nat} {nm id ky : Bs} {so : Value} {srcs : List Bs} {st : Ldg} {c c' : Nat} (h : PNs w F Fk nb kb nm id ky so srcs st c) (hc : c ≤ c') : PNs w F Fk nb kb nm id ky so srcs st c' := ⟨h.nblk, h.kn.mono hc, h.rso, h.fn, h.fso, h.fk, h.nf, h.lt⟩
/-- Behind what was taken in. -/
theorem PNs.after {w w' : World} {F Fk Fk' : Nat → Prop} {nb kb : Nat} {nm id ky : Bs} {so : Value} {srcs : List Bs} {st st' : Ldg} {c c' : Nat} (h : PNs w F Fk nb kb nm id ky so srcs st c) (K : Kp Fk w w') (h1 : ∀ k, Fk' k → Fk k ∨ w.heap.size ≤ k) (h2 : ∀ k, Fk' k → k < w'.heap.size) (hk : KN w' Fk' kb st' c') : PNs w' (fun k => F k ∨ Fk' k) Fk' nb kb nm id ky so srcs st' c' := by
  have hnb := h.lt nb h.fn
  refine ⟨(K.block nb hnb h.nf).trans h.nblk, hk, ownsRow_heap h.rso (fun k e => K.block k (h.rso.lt k e).2 (h.fso k e).2), Or.inl h.fn, ?_, fun k hf => Or.inr hf, ?_, ?_⟩
  · intro k e
    refine ⟨Or.inl (h.fso k e).1, fun hf => ?_⟩
    rcases h1 k hf with h3 | h3
    · exact (h.fso k e).2 h3
    · have := (h.rso.lt k e).2
      omega
  · intro hf
    rcases h1 nb hf with h3 | h3
    · exact h.nf h3
    · omega
  · rintro k (hf | hf)
    · exact Nat.lt_of_lt_of_le (h.lt k hf) K.size
    · exact h2 k hf
set_option maxRecDepth 20000 in
theorem errno_nil (w : World) : Calls Tryz.prog 30 #[.nilIface] w fun e w' => e = .returned (.int .i64 0) ∧ Kp (fun _ => False) w w' := by
  have HK := hide (w3_kp w)
  unfold w3 at HK
  go_enter Tryz.func30, Tryz.ntmps30
  go_wp2
  go_ret
  exact ⟨rfl, HK.out⟩
theorem joinF_len {a b ks : List Ky} (h : joinF a b = some ks) : ks.length = a.length + b.length := by
  unfold joinF at h
  split at h
  · rename_i hn
    injection h with h
    subst h
    rw [ofL_lenK _ hn, List.length_append]
  · cases h
theorem docF_klen {l : List (Bs × J)} (hwf : WF 6 (.obj l)) (hcl : (cJ (.obj l)).length ≤ 600) {s : Bs} {u : Int} {ks : List Ky} (h : docF l = some (s, u, ks)) : ks.length ≤ 1100 := by
  rw [docF_eq] at h
  simp only [Option.bind_eq_some_iff, Option.map_eq_some_iff, Prod.mk.injEq] at h
  obtain ⟨s', hs, u', hu, a, ha, b, hb, q, hq, rfl, rfl, rfl⟩ := h
  rw [joinF_len hq]
  have h1 : a.length ≤ 4 := by
    unfold inF at ha
    simp only [Option.bind_eq_some_iff] at ha
    obtain ⟨m, _, ha⟩ := ha
    split at ha
    · rename_i hm
      have := congrArg List.length (keysF_ids ha).1
      simp only [List.length_map] at this
      omega
    · cases ha
  have h2 : b.length ≤ 1000 := by
    rw [oldF_eq] at hb
    cases ho : lookK kOld l with
    | none =>
      rw [ho] at hb
      injection hb with hb
      subst hb
      exact Nat.zero_le _
    | some j =>
      rw [ho] at hb
      replace hb : (objF (some j)).bind (keysF true 0) = some b := hb
      simp only [Option.bind_eq_some_iff] at hb
      obtain ⟨m, hm, hb⟩ := hb
      have h3 := (doc_kids (k := kOld) hwf hcl m (by rw [ho]; exact hm)).2.1
      have := congrArg List.length (keysF_ids hb).1
      simp only [List.length_map] at this
      omega
  omega
/-- What a document that is read is like. -/
theorem readF_ok {t : Bs} {sn : Bs} {u : Int} {ks : List Ky} (h : readF t = .ok (sn, u, ks)) : sn.length ≤ 20 ∧ (∀ k ∈ ks, k.id.length ≤ 20 ∧ k.key.length ≤ 600) ∧ (ks.map (·.id)).Nodup ∧ ks.length ≤ 1100 ∧ t.length ≤ 600 := by
  unfold readF at h
  cases ho : objectF t with
  | error n => rw [ho] at h; cases h
  | ok l =>
    rw [ho] at h
    replace h : readO l = .ok (sn, u, ks) := h
    obtain ⟨hp, hl⟩ := object_ok ho
    obtain ⟨hwf, hle⟩ := parse_ok hp
    unfold readO at h
    cases hd : docF l with
    | none => rw [hd] at h; cases h
    | some d =>
      obtain ⟨s', u', ks'⟩ := d
      rw [hd] at h
      replace h : (if ks'.all (sgOk l s') then Except.ok (s', u', ks') else .error 5) = .ok (sn, u, ks) := h
      split at h
      · injection h with h
        injection h with h1 h2
        injection h2 with h2 h3
        subst h1 h2 h3
        obtain ⟨h1, h2, h3⟩ := docF_ids hd
        exact ⟨h1, fun k hk => ⟨h2 k hk, by have := docF_len hd k hk; omega⟩, h3, docF_klen hwf (by omega) hd, hl⟩
      · cases h
/-- What a step of the program's notary comes to. -/
def PnR (w : World) (F : Nat → Prop) (nb : Nat) (nm id ky : Bs) (srcs : List Bs) (st : Ldg) (c : Nat) (w' : World) : Prop := ∃ F' : Nat → Prop, Kp F w w' ∧ (∀ k, F' k → F k ∨ w.heap.size ≤ k) ∧ PN w' F' nb nm id ky srcs st c
theorem ti_below {W w wd w3 : World} {F Fk : Nat → Prop} {nb kb : Nat} {nm id ky : Bs} {so : Value} {srcs : List Bs} {st : Ldg} {c : Nat} (hW : Below W.heap.size W w) (K : Kp (fun _ => False) w wd) (h : PNs wd.drew F Fk nb kb nm id ky so srcs st c) (hF : ∀ k, F k → W.heap.size ≤ k) (K3 : Kp Fk wd.drew w3) : Below W.heap.size W w3 := by
  have hb := below_kp hW K.drew
  exact ⟨K3.os.trans hb.os, K3.tape.trans hb.tape, K3.output.trans hb.output, Nat.le_trans hb.size K3.size, fun k hk => (K3.block k (Nat.lt_of_lt_of_le hk hb.size) (fun hf => by have := hF k (h.fk k hf); omega)).trans (hb.block k hk)⟩
theorem pn_end {w wd X w3 w4 : World} {F Fk Fk' : Nat → Prop} {nb kb : Nat} {nm id ky : Bs} {so : Value} {srcs : List Bs} {st st' : Ldg} {c c' : Nat} (K : Kp (fun _ => False) w wd) (h : PNs X F Fk nb kb nm id ky so srcs st c) (KX : Kp (fun _ => False) wd X) (K3 : Kp Fk X w3) (h1 : ∀ k, Fk' k → Fk k ∨ X.heap.size ≤ k) (h2 : ∀ k, Fk' k → k < w3.heap.size) (hk : KN w3 Fk' kb st' c') (K4 : Kp (fun _ => False) w3 w4) : PnR w F nb nm id ky srcs st' c' w4 := by
  have hp := (h.after K3 h1 h2 hk).kp K4
  have Kw := K.trans KX
  refine ⟨fun k => F k ∨ Fk' k, ?_, ?_, _, _, _, hp⟩
  · exact (Kw.mono (fun _ _ h => h.elim)).trans ((K3.mono (fun k _ hf => h.fk k hf)).trans (K4.mono (fun _ _ h => h.elim)))
  · rintro k (hf | hf)
    · exact Or.inl hf
    · rcases h1 k hf with h3 | h3
      · exact Or.inl (h.fk k h3)
      · exact Or.inr (Nat.le_trans Kw.size h3)
set_option maxRecDepth 20000 in
set_option maxHeartbeats 4000000 in
theorem learn_c (W : World) (hN : NG3 W) (w : World) (hW : Below W.heap.size W w) (F : Nat → Prop) (hFl : ∀ k, F k → W.heap.size ≤ k) (nb : Nat) (nm id ky : Bs) (srcs : List Bs) (st : Ldg) (c : Nat) (hP : PN w F nb nm id ky srcs st c) (text : Bs) (now : Int) (hnow : -9223372036854775808 ≤ now) (hc : c ≤ 100000000000000000) :
    Calls Tryz.prog 14 #[.pointer (some ⟨nb, 0, none⟩), .string ⟨text.toArray⟩, .int .i64 now] w fun e w' => e = .returned (.int .i64 ((learnS st text now).1 : Int)) ∧ PnR w F nb nm id ky srcs (learnS st text now).2 (c + 1200) w' := by
  obtain ⟨Fk, kb, so, hp⟩ := hP
  have HD := hide (readDocument_c W hN.n2 ⟨text.toArray⟩ w hW)
  have e9 : (⟨text.toArray⟩ : ByteArray).data.toList = text := by simp
  rw [e9] at HD
  clear e9
  have HP := hide hp
  clear hp
  go_enter Tryz.func14, Tryz.ntmps14
  go_wp2_with fail
  refine HD.out.mono ?_
  rintro e w1 ⟨K1, h1⟩
  have HK1 := hide K1
  have hp1 := HP.out.kp K1
  clear HD K1
  cases hr : readF text with
  | error n =>
    rw [hr] at h1
    obtain ⟨ev, rfl, he, tt, u, rfl⟩ := h1
    have Kd : Kp (fun _ => False) w1 (w1.alloc (.cells #[.string ⟨#[]⟩, .int .i64 0, .slice none 0 0] 83)) := (Kp.refl _ _).alloc _
    have HE := hide (errno_a W hN.n2 _ (below_kp hW (HK1.out.trans Kd)) _ n (he.up Kd))
    have hls : learnS st text now = (n, st) := by unfold learnS; rw [hr]
    have HL := hide hls
    clear he hr hls hp1
    go_wp2_with fail
    generalize (w1.alloc (.cells #[.string ⟨#[]⟩, .int .i64 0, .slice none 0 0] 83)) = wd at *
    refine HE.out.mono ?_
    rintro e w2 ⟨rfl, K2⟩
    have HK2 := hide (HK1.out.trans (Kd.trans K2))
    clear K2 Kd
    go_wp2
    go_ret
    rw [HL.out]
    exact ⟨rfl, F, HK2.out.mono (fun _ _ h => h.elim), fun _ h => Or.inl h, _, _, _, (HP.out.kp HK2.out).mono (by omega)⟩
  | ok d =>
    obtain ⟨sn, un, ks⟩ := d
    rw [hr] at h1
    obtain ⟨v, rfl, row⟩ := h1
    obtain ⟨q1, q2, q3, q4, q5⟩ := readF_ok hr
    obtain ⟨va, vc, rfl, _⟩ := own_slice4 row
    have Kd : Kp (fun _ => False) w1 (w1.alloc (.cells #[.string ⟨sn.toArray⟩, .int .i64 un, .slice va ks.length vc] 83)) := (Kp.refl _ _).alloc _
    have Id := heap_alloc_new w1 (.cells #[.string ⟨sn.toArray⟩, .int .i64 un, .slice va ks.length vc] 83)
    have hpd := hp1.kp Kd
    have HTI : Hid (∀ X, Kp (fun _ => False) (w1.alloc (.cells #[.string ⟨sn.toArray⟩, .int .i64 un, .slice va ks.length vc] 83)) X → Calls Tryz.prog 36 #[.pointer (some ⟨kb, 0, none⟩), .agg #[.string ⟨sn.toArray⟩, .int .i64 un, .slice va ks.length vc], .string ⟨text.toArray⟩, .int .i64 now] X fun e w' => TiR W X Fk kb (takeS st sn ks text now) (c + ks.length + 1) e w') := fun X hX =>
      takeIn_c W hN X (below_kp hW (HK1.out.trans (Kd.trans hX))) Fk (fun k hf => ⟨hFl k (hpd.fk k hf), (hpd.kp hX).lt k (hpd.fk k hf)⟩) kb st c (hpd.kp hX).kn sn un text now hnow _ _ ks (ownsRow_kp row (Kd.trans hX) (by simp)) (by omega) (fun k hk => by have := (q2 k hk).1; omega) (by omega)
    have hls : learnS st text now = takeS st sn ks text now := by unfold learnS; rw [hr]
    have HL := hide hls
    clear hr hls row q1 q2 q3 q5 hp1
    obtain ⟨n0, n1, n2, n3, n4⟩ := nt_facts hpd.nblk
    have HPD := hide hpd
    clear hpd
    go_wp2_with fail
    generalize (w1.alloc (.cells #[.string ⟨sn.toArray⟩, .int .i64 un, .slice va ks.length vc] 83)) = wd at *
    obtain ⟨x0, x1, x2, xf0, xf1, xf2, hxb⟩ := dfacts Id
    cases hcf : confF st sn ks with
    | true =>
      have hts : takeS st sn ks text now = (6, st) := by unfold takeS; rw [if_pos hcf]
      rw [hts] at HTI HL
      clear hts hcf
      go_region_law (first
        | (refine step_callF rfl 36 _ _ rfl #[.pointer (some ⟨kb, 0, none⟩), .agg #[.string ⟨sn.toArray⟩, .int .i64 un, .slice va ks.length vc], .string ⟨text.toArray⟩, .int .i64 now] (by go_simp) ?_; refine (HTI.out _ ((Kp.refl _ wd).drew)).mono ?_; rintro e w3 ⟨Fk', t1, t2, t3, t4, t5, t6⟩; obtain ⟨_, ev, rfl, he, tt, uu, rfl⟩ := t6.resolve_left (by rintro ⟨h, _⟩; cases h); have HT := hide (And.intro t1 (And.intro t2 (And.intro t3 (And.intro t5 he)))); clear t1 t2 t3 t4 t5 t6 he)
        | (refine step_callF rfl 30 _ _ rfl #[.iface tt uu] (by go_simp) ?_; refine (errno_a W hN.n2 w3 (ti_below hW (HK1.out.trans Kd) (HPD.out.kp (Kp.refl _ wd).drew) hFl HT.out.1) _ 6 (Or.inr HT.out.2.2.2.2)).mono ?_; rintro e w4 ⟨rfl, K4⟩; have HK4 := hide K4; clear K4))
      all_goals go_wp2
      all_goals go_ret
      all_goals
        rw [HL.out]
        exact ⟨rfl, pn_end (HK1.out.trans Kd) (HPD.out.kp (Kp.refl _ wd).drew) ((Kp.refl _ wd).drew) HT.out.1 HT.out.2.1 HT.out.2.2.1 (HT.out.2.2.2.1.mono (by omega)) HK4.out⟩
    | false =>
      have hts : takeS st sn ks text now = (0, keptS (ks.foldl (updK sn now) st) sn text) := by unfold takeS; rw [if_neg (by rw [hcf]; decide)]
      rw [hts] at HTI HL
      clear hts hcf
      go_region_law (first
        | (refine step_callF rfl 36 _ _ rfl #[.pointer (some ⟨kb, 0, none⟩), .agg #[.string ⟨sn.toArray⟩, .int .i64 un, .slice va ks.length vc], .string ⟨text.toArray⟩, .int .i64 now] (by go_simp) ?_; refine (HTI.out _ ((Kp.refl _ wd).drew)).mono ?_; rintro e w3 ⟨Fk', t1, t2, t3, t4, t5, t6⟩; obtain ⟨_, rfl⟩ := t6.resolve_right (by rintro ⟨h, _⟩; cases h); have HT := hide (And.intro t1 (And.intro t2 (And.intro t3 t5))); clear t1 t2 t3 t4 t5 t6)
        | (refine step_callF rfl 30 _ _ rfl #[.nilIface] (by go_simp) ?_; refine (errno_nil w3).mono ?_; rintro e w4 ⟨rfl, K4⟩; have HK4 := hide K4; clear K4))
      all_goals go_wp2
      all_goals go_ret
      all_goals
        rw [HL.out]
        exact ⟨rfl, pn_end (HK1.out.trans Kd) (HPD.out.kp (Kp.refl _ wd).drew) ((Kp.refl _ wd).drew) HT.out.1 HT.out.2.1 HT.out.2.2.1 (HT.out.2.2.2.mono (by omega)) HK4.out⟩
end Go.Proofs.YtocligpfmfmihabGreatDoor
namespace Go.Proofs.YtocligpfmfmihabGreatDoor
open Go Go.RowKit Go.Maps Go.WideMaps Go.MuLone
attribute [local go_sem] Oper.semAt_some

theorem keyAt_c (w : World) (F : Nat → Prop) (kb : Nat) (st : Ldg) (c : Nat) (h : KN w F kb st c) (s i : Bs) (hs : s.length ≤ 9223372036854775807) (hi : i.length ≤ 9223372036854775807) (at' : Int) :
    Calls Tryz.prog 37 #[.pointer (some ⟨kb, 0, none⟩), .string ⟨s.toArray⟩, .string ⟨i.toArray⟩, .int .i64 at'] w fun e w' => e = .returned (.tuple #[.string ⟨((mayS st s i at').getD []).toArray⟩, .bool (mayS st s i at').isSome]) ∧ Kp (fun _ => False) w w' := by
  obtain ⟨mb, ib, sm, im, Bf, Qf, qm, hk⟩ := h
  have hl := hk.look s
  cases hd : st.docs s with
  | none =>
    rw [hd] at hl
    have hm : mayS st s i at' = none := by unfold mayS; rw [hk.non s hd i]; rfl
    rw [hm]
    refine (keyAt_no w kb mb ib sm.length sm hk.kblk hk.ms s i hs at' hl).mono ?_
    rintro e w' ⟨rfl, rfl⟩
    exact ⟨rfl, Kp.refl _ _⟩
  | some t =>
    rw [hd] at hl
    have hv := (hk.srv s t hd).1
    exact keyAt_yes w kb mb ib sm.length (Bf s) (Qf s) (qm s).length t sm (qm s) hk.kblk hk.ms s i hs hi at' hl hv.blk hv.own (st.keys s i) (hv.look i)
set_option maxRecDepth 20000 in
theorem key_c (w : World) (F : Nat → Prop) (nb : Nat) (nm id ky : Bs) (srcs : List Bs) (st : Ldg) (c : Nat) (hP : PN w F nb nm id ky srcs st c) (s i : Bs) (hs : s.length ≤ 9223372036854775807) (hi : i.length ≤ 9223372036854775807) (at' : Int) :
    Calls Tryz.prog 15 #[.pointer (some ⟨nb, 0, none⟩), .string ⟨s.toArray⟩, .string ⟨i.toArray⟩, .int .i64 at'] w fun e w' => e = .returned (.tuple #[.string ⟨((mayS st s i at').getD []).toArray⟩, .bool (mayS st s i at').isSome]) ∧ Kp (fun _ => False) w w' := by
  obtain ⟨Fk, kb, so, hp⟩ := hP
  have HA := hide (keyAt_c w Fk kb st c hp.kn s i hs hi at')
  obtain ⟨n0, n1, n2, n3, n4⟩ := nt_facts hp.nblk
  clear hp
  go_enter Tryz.func15, Tryz.ntmps15
  go_wp2_with fail
  refine HA.out.mono ?_
  rintro e w' ⟨rfl, K⟩
  have HK := hide K
  clear K
  go_wp2
  go_ret2
  exact ⟨rfl, HK.out⟩
end Go.Proofs.YtocligpfmfmihabGreatDoor
namespace Go.Proofs.YtocligpfmfmihabGreatDoor
open Go Go.RowKit Go.Maps Go.WideMaps Go.MuLone
attribute [local go_sem] Oper.semAt_some

theorem nilS (w : World) : (binOp .eql 26 (.slice none 0 0) (.slice none 0 0)).run Tryz.prog w = .ok (.bool true) w := by kernel_rfl
theorem someS (ad : Addr) (n c : Nat) (w : World) : (binOp .eql 26 (.slice (some ad) n c) (.slice none 0 0)).run Tryz.prog w = .ok (.bool false) w := by kernel_rfl
set_option maxRecDepth 20000 in
set_option maxHeartbeats 4000000 in
theorem clone_c (w : World) (B : Nat) (v : Value) (xs : List Bs) (row : w.ownsRow B 9 1 v xs.length (xs.map fun s => .string ⟨s.toArray⟩)) (hn : xs.length ≤ 1100000000) :
    Calls Tryz.prog 20 #[v] w fun e w' => ∃ v', e = .returned v' ∧ Kp (fun _ => False) w w' ∧ w'.ownsRow w.heap.size 9 1 v' xs.length (xs.map fun s => .string ⟨s.toArray⟩) := by
  obtain ⟨va, vc, rfl⟩ := own_slice row
  cases va with
  | none =>
    have hz : xs = [] ∧ vc = 0 := by
      rcases row.2 with ⟨e1, e⟩ | ⟨g, cap, cur, e, _⟩
      · injection e1 with _ _ e1
        exact ⟨List.length_eq_zero_iff.1 e, e1⟩
      · injection e with e; cases e
    obtain ⟨rfl, rfl⟩ := hz
    clear row
    have hq := nilS
    go_enter Tryz.func20, Tryz.ntmps20
    go_wp2
    go_ret
    exact ⟨_, rfl, Kp.refl _ _, World.ownsRow_nil _ _ _ _⟩
  | some ad =>
    have hq := someS ad xs.length vc
    go_enter Tryz.func20, Tryz.ntmps20
    obtain ⟨i0, hi, hz0, hz1, hz2⟩ := info_parts infoStr
    obtain ⟨g, rfl⟩ : ∃ g, ad = ⟨g, 0, none⟩ := by
      rcases row.2 with ⟨e1, _⟩ | ⟨g, cap, cur, e, _⟩
      · injection e1 with e1; cases e1
      · injection e with e
        injection e with e
        exact ⟨g, e⟩
    have hnew : ∀ ad, some (⟨g, 0, none⟩ : Addr) = some ad → ∀ j u, (xs.map fun s => Value.string ⟨s.toArray⟩)[j]? = some u → (w.alloc (.cells #[] 9)).cell? (ad.add j) = some u := by
      intro ad h j u hu
      injection h with h
      subst h
      exact (row.alloc (.cells #[] 9)).cells (g := g) rfl j u hu
    have hone : ∀ u ∈ (xs.map fun s => Value.string ⟨s.toArray⟩), u.oneCell' = true := by
      intro u hu
      obtain ⟨s, _, rfl⟩ := List.mem_map.1 hu
      rfl
    have r0 := World.ownsRow_lit (base := w.heap.size) (e := 9) (size := 1) w #[] 0 (Nat.le_refl _) (Nat.zero_le _) rfl
    have HN := hide (And.intro hnew (And.intro hone r0))
    clear hnew hone r0 row
    go_wp2_with (at_builtin; (refine wpList_append_any _ rfl _ _ 26 rfl w.heap.size 9 i0 (.string ⟨#[]⟩) 1 16 Tryz.underlying26 hi hz0 hz1 hz2 rfl (by decide) _ _ _ rfl HN.out.2.2 (some ⟨g, 0, none⟩) xs.length vc (xs.map fun s => Value.string ⟨s.toArray⟩) rfl (by simp) (fun h => by cases h) HN.out.1 HN.out.2.1 (by unfold maxLen; omega) (by omega) (by simp) ?_))
    intro v' w' y1 y2 y3
    have K2 : Kp (fun _ => False) w w' := ((Kp.refl _ w).alloc _).gr y2 (fun r e => by have := Option.some.inj (show some w.heap.size = some r from e); omega)
    have HY := hide (And.intro y1 K2)
    clear y1 y2 y3 K2
    go_wp2
    go_ret
    refine ⟨_, rfl, HY.out.2, ?_⟩
    exact HY.out.1
set_option maxRecDepth 20000 in
theorem newKnown_c (w : World) : Calls Tryz.prog 21 #[] w fun e w' => ∃ F kb, e = .returned (.pointer (some ⟨kb, 0, none⟩)) ∧ Kp (fun _ => False) w w' ∧ KN w' F kb Ldg.zero 0 ∧ (∀ k, F k → w.heap.size ≤ k ∧ k < w'.heap.size) := by
  have hm1 : ∀ (w : World), (Instr.makeMap 100 none).run Tryz.prog w = .ok (.map (some w.heap.size)) (w.alloc (.map #[] 0)) := by
    intro w
    simp [Instr.makeMap, Result.andThen]
  have hm2 : ∀ (w : World), (Instr.makeMap 101 none).run Tryz.prog w = .ok (.map (some w.heap.size)) (w.alloc (.map #[] 0)) := by
    intro w
    simp [Instr.makeMap, Result.andThen]
  go_enter Tryz.func21, Tryz.ntmps21
  go_wp2
  go_ret
  obtain ⟨i1, i2, i3⟩ := three_new w (.map #[] 0) (.map #[] 0) (.cells #[.int .i32 0, .int .u32 0, .map (some w.heap.size), .map (some (w.heap.size + 1))] 109)
  have o1 : (w.alloc (.map #[] 0)).ownsMap Tryz.prog 9 Rv w.heap.size 0 (dm []) := by simpa [dm] using World.ownsMap_made w Tryz.prog 9 Rv
  have o2 : ((w.alloc (.map #[] 0)).alloc (.map #[] 0)).ownsMap Tryz.prog 9 Rv (w.heap.size + 1) 0 (dm []) := by
    have h := World.ownsMap_made (w.alloc (.map #[] 0)) Tryz.prog 9 Rv
    rw [World.size_alloc] at h
    simpa [dm] using h
  have Kf : Kp (fun _ => False) w (((w.alloc (.map #[] 0)).alloc (.map #[] 0)).alloc (.cells #[.int .i32 0, .int .u32 0, .map (some w.heap.size), .map (some (w.heap.size + 1))] 109)) := (((Kp.refl _ _).alloc _).alloc _).alloc _
  have hsz : (((w.alloc (.map #[] 0)).alloc (.map #[] 0)).alloc (.cells #[.int .i32 0, .int .u32 0, .map (some w.heap.size), .map (some (w.heap.size + 1))] 109)).heap.size = w.heap.size + 3 := by simp
  refine ⟨fun k => k = w.heap.size ∨ k = w.heap.size + 1 ∨ k = w.heap.size + 1 + 1, w.heap.size + 1 + 1, rfl, Kf, ⟨w.heap.size, w.heap.size + 1, [], [], fun _ => 0, fun _ => 0, fun _ => [], ?_⟩, ?_⟩
  · refine ⟨i3, ?_, ?_, List.Pairwise.nil, List.Pairwise.nil, fun _ => rfl, fun _ => rfl, fun _ _ h => (by cases h), fun _ _ _ => rfl, fun _ _ _ _ h => (by cases h), fun _ _ h => (by cases h), (by omega), Nat.le_refl _, Nat.le_refl _, Or.inr (Or.inr rfl), Or.inl rfl, Or.inr (Or.inl rfl), fun _ _ h => by cases h⟩
    · refine ownsMap_heap o1 ?_
      rw [i1, heap_alloc_new]
    · refine ownsMap_heap o2 ?_
      rw [i2]
      have h := heap_alloc_new (w.alloc (.map #[] 0)) (.map #[] 0)
      rw [World.size_alloc] at h
      exact h.symm
  · rintro k (rfl | rfl | rfl)
    all_goals rw [hsz]
    all_goals omega
set_option maxRecDepth 20000 in
set_option maxHeartbeats 4000000 in
theorem new_c (w : World) (nm id ky : Bs) (B : Nat) (v : Value) (xs : List Bs) (row : w.ownsRow B 9 1 v xs.length (xs.map fun s => .string ⟨s.toArray⟩)) (hn : xs.length ≤ 1100000000) :
    Calls Tryz.prog 9 #[.string ⟨nm.toArray⟩, .string ⟨id.toArray⟩, .string ⟨ky.toArray⟩, v] w fun e w' => ∃ F nb, e = .returned (.pointer (some ⟨nb, 0, none⟩)) ∧ Kp (fun _ => False) w w' ∧ PN w' F nb nm id ky xs Ldg.zero 0 ∧ (∀ k, F k → w.heap.size ≤ k) := by
  have HC : Hid (∀ X, Kp (fun _ => False) w X → Calls Tryz.prog 20 #[v] X fun e w' => ∃ v', e = .returned v' ∧ Kp (fun _ => False) X w' ∧ w'.ownsRow X.heap.size 9 1 v' xs.length (xs.map fun s => .string ⟨s.toArray⟩)) := fun X hX => clone_c X B v xs (ownsRow_kp row hX (by simp)) hn
  obtain ⟨va, vc, rfl⟩ := own_slice row
  clear row
  go_enter Tryz.func9, Tryz.ntmps9
  go_wp2_with fail
  refine (HC.out w (Kp.refl _ _)).mono ?_
  rintro e w1 ⟨v1, rfl, K1, row1⟩
  obtain ⟨v1a, v1c, rfl⟩ := own_slice row1
  have HR := hide row1
  have HK1 := hide K1
  clear row1 K1 HC
  go_wp2_with fail
  refine (newKnown_c w1).mono ?_
  rintro e w2 ⟨Fk, kb, rfl, K2, hkn, hFk⟩
  have HN := hide (And.intro K2 (And.intro hkn hFk))
  clear K2 hkn hFk
  go_wp2
  go_ret
  have K3 : Kp (fun _ => False) w2 (w2.alloc (.cells #[.string ⟨nm.toArray⟩, .string ⟨id.toArray⟩, .string ⟨ky.toArray⟩, .slice v1a xs.length v1c, .pointer (some ⟨kb, 0, none⟩)] 55)) := (Kp.refl _ _).alloc _
  have row3 := ownsRow_kp HR.out (HN.out.1.trans K3) (by simp)
  have hs1 := HK1.out.size
  have hs2 := HN.out.1.size
  refine ⟨fun k => Fk k ∨ k = w2.heap.size ∨ (Value.slice v1a xs.length v1c).ownBlock = some k, w2.heap.size, rfl, (HK1.out.trans HN.out.1).trans K3, ⟨Fk, kb, .slice v1a xs.length v1c, ?_⟩, ?_⟩
  · refine ⟨heap_alloc_new w2 _, HN.out.2.1.kp (fun k h => (HN.out.2.2 k h).2) K3, own_base (Nat.zero_le _) row3, Or.inr (Or.inl rfl), ?_, fun _ h => Or.inl h, ?_, ?_⟩
    · intro k e
      refine ⟨Or.inr (Or.inr e), fun hf => ?_⟩
      have h1 := (HN.out.2.2 k hf).1
      have h2 := (HR.out.lt k e).2
      omega
    · intro hf
      have := (HN.out.2.2 _ hf).2
      omega
    · rw [World.size_alloc]
      rintro k (hf | rfl | e)
      · have := (HN.out.2.2 k hf).2
        omega
      · omega
      · have := (HR.out.lt k e).2
        omega
  · rintro k (hf | rfl | e)
    · have := (HN.out.2.2 k hf).1
      omega
    · omega
    · exact (HR.out.lt k e).1
end Go.Proofs.YtocligpfmfmihabGreatDoor

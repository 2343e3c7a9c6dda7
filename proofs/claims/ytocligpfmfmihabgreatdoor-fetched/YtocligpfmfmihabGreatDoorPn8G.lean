import Derived.Test.YtocligpfmfmihabGreatDoorPn7
import Derived.Test.YtocligpfmfmihabGreatDoorPr12G
import Derived.Test.YtocligpfmfmihabGreatDoorHon2G
import Derived.Deep.RegionHeld
import Derived.Test.YtocligpfmfmihabGreatDoorWrt2G
namespace Go.Proofs.YtocligpfmfmihabGreatDoor
open Go Go.RowKit Go.Maps Go.WideMaps Go.MuLone
attribute [local go_sem] Oper.semAt_some

/-- The cells of a notary. -/
def ntObj (nm id ky : Bs) (so : Value) (kb : Nat) : Obj := .cells #[.string ⟨nm.toArray⟩, .string ⟨id.toArray⟩, .string ⟨ky.toArray⟩, so, .pointer (some ⟨kb, 0, none⟩)] 55
theorem nt_facts {w : World} {b kb : Nat} {nm id ky : Bs} {so : Value} (h : w.heap[b]? = some (ntObj nm id ky so kb)) : w.cell? ⟨b, 0, none⟩ = some (.string ⟨nm.toArray⟩) ∧ w.cell? ⟨b, 1, none⟩ = some (.string ⟨id.toArray⟩) ∧ w.cell? ⟨b, 2, none⟩ = some (.string ⟨ky.toArray⟩) ∧ w.cell? ⟨b, 3, none⟩ = some so ∧ w.cell? ⟨b, 4, none⟩ = some (.pointer (some ⟨kb, 0, none⟩)) := by
  unfold ntObj at h
  refine ⟨?_, ?_, ?_, ?_, ?_⟩ <;> simp [World.cell?, h]
/-- A notary of the program. -/
structure PNs (w : World) (F Fk : Nat → Prop) (nb kb : Nat) (nm id ky : Bs) (so : Value) (srcs : List Bs) (st : Ldg) (c : Nat) : Prop where
  nblk : w.heap[nb]? = some (ntObj nm id ky so kb)
  kn : KN w Fk kb st c
  rso : w.ownsRow 0 9 1 so srcs.length (srcs.map fun s => .string ⟨s.toArray⟩)
  fn : F nb
  fso : ∀ k, so.ownBlock = some k → F k ∧ ¬ Fk k
  fk : ∀ k, Fk k → F k
  nf : ¬ Fk nb
  lt : ∀ k, F k → k < w.heap.size
def PN (w : World) (F : Nat → Prop) (nb : Nat) (nm id ky : Bs) (srcs : List Bs) (st : Ldg) (c : Nat) : Prop := ∃ Fk kb so, PNs w F Fk nb kb nm id ky so srcs st c
theorem PNs.frame {w w' : World} {F Fk : Nat → Prop} {nb kb : Nat} {nm id ky : Bs} {so : Value} {srcs : List Bs} {st : Ldg} {c : Nat} (h : PNs w F Fk nb kb nm id ky so srcs st c) (hs : w.heap.size ≤ w'.heap.size) (hk : ∀ k, F k → w'.heap[k]? = w.heap[k]?) : PNs w' F Fk nb kb nm id ky so srcs st c :=
  ⟨(hk nb h.fn).trans h.nblk, h.kn.frame (fun k hf => hk k (h.fk k hf)), ownsRow_heap h.rso (fun k e => hk k (h.fso k e).1), h.fn, h.fso, h.fk, h.nf, fun k hf => Nat.lt_of_lt_of_le (h.lt k hf) hs⟩
theorem PN.frame {w w' : World} {F : Nat → Prop} {nb : Nat} {nm id ky : Bs} {srcs : List Bs} {st : Ldg} {c : Nat} (h : PN w F nb nm id ky srcs st c) (hs : w.heap.size ≤ w'.heap.size) (hk : ∀ k, F k → w'.heap[k]? = w.heap[k]?) : PN w' F nb nm id ky srcs st c := by
  obtain ⟨Fk, kb, so, h⟩ := h
  exact ⟨Fk, kb, so, h.frame hs hk⟩
theorem PNs.kp {w w' : World} {F Fk : Nat → Prop} {nb kb : Nat} {nm id ky : Bs} {so : Value} {srcs : List Bs} {st : Ldg} {c : Nat} (h : PNs w F Fk nb kb nm id ky so srcs st c) (hk : Kp (fun _ => False) w w') : PNs w' F Fk nb kb nm id ky so srcs st c :=
  h.frame hk.size (fun k hf => hk.block k (h.lt k hf) (by simp))
theorem PNs.mono {w : World} {F Fk : Nat → Prop} {nb kb : Nat} {nm id ky : Bs} {so : Value} {srcs : List Bs} {st : Ldg} {c c' : Nat} (h : PNs w F Fk nb kb nm id ky so srcs st c) (hc : c ≤ c') : PNs w F Fk nb kb nm id ky so srcs st c' := ⟨h.nblk, h.kn.mono hc, h.rso, h.fn, h.fso, h.fk, h.nf, h.lt⟩
/-- Behind what was taken in. -/
theorem PNs.after {w w' : World} {F Fk Fk' : Nat → Prop} {nb kb : Nat} {nm id ky : Bs} {so : Value} {srcs : List Bs} {st st' : Ldg} {c c' : Nat} (h : PNs w F Fk nb kb nm id ky so srcs st c) (K : Kp Fk w w') (h1 : ∀ k, Fk' k → Fk k ∨ w.heap.size ≤ k) (h2 : ∀ k, Fk' k → k < w'.heap.size) (hk : KN w' Fk' kb st' c') : PNs w' (fun k => F k ∨ Fk' k) Fk' nb kb nm id ky so srcs st' c' := by
  have hnb := h.lt nb h.fn
  refine ⟨(K.block nb hnb h.nf).trans h.nblk, hk, ownsRow_heap h.rso (fun k e => K.block k (h.rso.lt k e).2 (h.fso k e).2), Or.inl h.fn, ?_, fun k hf => Or.inr hf, ?_, ?_⟩
  · intro k e
    refine ⟨Or.inl (h.fso k e).1, fun hf => ?_⟩
    rcases h1 k hf with h3 | h3
    · exact (h.fso k e).2 h3
    · have := (h.rso.lt k e).2
      omega
  · intro hf
    rcases h1 nb hf with h3 | h3
    · exact h.nf h3
    · omega
  · rintro k (hf | hf)
    · exact Nat.lt_of_lt_of_le (h.lt k hf) K.size
    · exact h2 k hf
set_option maxRecDepth 20000 in
theorem errno_nil (w : World) : Calls Tryz.prog 30 #[.nilIface] w fun e w' => e = .returned (.int .i64 0) ∧ Kp (fun _ => False) w w' := by
  have HK := hide (w3_kp w)
  unfold w3 at HK
  go_enter Tryz.func30, Tryz.ntmps30
  go_wp2
  go_ret
  exact ⟨rfl, HK.out⟩
theorem joinF_len {a b ks : List Ky} (h : joinF a b = some ks) : ks.length = a.length + b.length := by
  unfold joinF at h
  split at h
  · rename_i hn
    injection h with h
    subst h
    rw [ofL_lenK _ hn, List.length_append]
  · cases h
theorem docF_klen {l : List (Bs × J)} (hwf : WF 6 (.obj l)) (hcl : (cJ (.obj l)).length ≤ 600) {s : Bs} {u : Int} {ks : List Ky} (h : docF l = some (s, u, ks)) : ks.length ≤ 1100 := by
  rw [docF_eq] at h
  simp only [Option.bind_eq_some_iff, Option.map_eq_some_iff, Prod.mk.injEq] at h
  obtain ⟨s', hs, u', hu, a, ha, b, hb, q, hq, rfl, rfl, rfl⟩ := h
  rw [joinF_len hq]
  have h1 : a.length ≤ 4 := by
    unfold inF at ha
    simp only [Option.bind_eq_some_iff] at ha
    obtain ⟨m, _, ha⟩ := ha
    split at ha
    · rename_i hm
      have := congrArg List.length (keysF_ids ha).1
      simp only [List.length_map] at this
      omega
    · cases ha
  have h2 : b.length ≤ 1000 := by
    rw [oldF_eq] at hb
    cases ho : lookK kOld l with
    | none =>
      rw [ho] at hb
      injection hb with hb
      subst hb
      exact Nat.zero_le _
    | some j =>
      rw [ho] at hb
      replace hb : (objF (some j)).bind (keysF true 0) = some b := hb
      simp only [Option.bind_eq_some_iff] at hb
      obtain ⟨m, hm, hb⟩ := hb
      have h3 := (doc_kids (k := kOld) hwf hcl m (by rw [ho]; exact hm)).2.1
      have := congrArg List.length (keysF_ids hb).1
      simp only [List.length_map] at this
      omega
  omega
/-- What a document that is read is like. -/
theorem readF_ok {t : Bs} {sn : Bs} {u : Int} {ks : List Ky} (h : readF t = .ok (sn, u, ks)) : sn.length ≤ 20 ∧ (∀ k ∈ ks, k.id.length ≤ 20 ∧ k.key.length ≤ 600) ∧ (ks.map (·.id)).Nodup ∧ ks.length ≤ 1100 ∧ t.length ≤ 600 := by
  unfold readF at h
  cases ho : objectF t with
  | error n => rw [ho] at h; cases h
  | ok l =>
    rw [ho] at h
    replace h : readO l = .ok (sn, u, ks) := h
    obtain ⟨hp, hl⟩ := object_ok ho
    obtain ⟨hwf, hle⟩ := parse_ok hp
    unfold readO at h
    cases hd : docF l with
    | none => rw [hd] at h; cases h
    | some d =>
      obtain ⟨s', u', ks'⟩ := d
      rw [hd] at h
      replace h : (if ks'.all (sgOk l s') then Except.ok (s', u', ks') else .error 5) = .ok (sn, u, ks) := h
      split at h
      · injection h with h
        injection h with h1 h2
        injection h2 with h2 h3
        subst h1 h2 h3
        obtain ⟨h1, h2, h3⟩ := docF_ids hd
        exact ⟨h1, fun k hk => ⟨h2 k hk, by have := docF_len hd k hk; omega⟩, h3, docF_klen hwf (by omega) hd, hl⟩
      · cases h
/-- What a step of the program's notary comes to. -/
def PnR (w : World) (F : Nat → Prop) (nb : Nat) (nm id ky : Bs) (srcs : List Bs) (st : Ldg) (c : Nat) (w' : World) : Prop := ∃ F' : Nat → Prop, Kp F w w' ∧ (∀ k, F' k → F k ∨ w.heap.size ≤ k) ∧ PN w' F' nb nm id ky srcs st c
end Go.Proofs.YtocligpfmfmihabGreatDoor
namespace Go.Proofs.YtocligpfmfmihabGreatDoor
open Go Go.RowKit Go.Maps Go.WideMaps Go.MuLone
attribute [local go_sem] Oper.semAt_some

theorem keyAt_c (w : World) (F : Nat → Prop) (kb : Nat) (st : Ldg) (c : Nat) (h : KN w F kb st c) (s i : Bs) (hs : s.length ≤ 2000000) (hi : i.length ≤ 2000000) (at' : Int) :
    Calls Tryz.prog 37 #[.pointer (some ⟨kb, 0, none⟩), .string ⟨s.toArray⟩, .string ⟨i.toArray⟩, .int .i64 at'] w fun e w' => e = .returned (.tuple #[.string ⟨((mayS st s i at').getD []).toArray⟩, .bool (mayS st s i at').isSome]) ∧ Kp (fun _ => False) w w' := by
  obtain ⟨mb, ib, sm, im, Bf, Qf, qm, hk⟩ := h
  have hl := hk.look s
  cases hd : st.docs s with
  | none =>
    rw [hd] at hl
    have hm : mayS st s i at' = none := by unfold mayS; rw [hk.non s hd i]; rfl
    rw [hm]
    refine (keyAt_no w kb mb ib sm.length sm hk.kblk hk.ms s i hs at' hl).mono ?_
    rintro e w' ⟨rfl, rfl⟩
    exact ⟨rfl, Kp.refl _ _⟩
  | some t =>
    rw [hd] at hl
    have hv := (hk.srv s t hd).1
    exact keyAt_yes w kb mb ib sm.length (Bf s) (Qf s) (qm s).length t sm (qm s) hk.kblk hk.ms s i hs hi at' hl hv.blk hv.own (st.keys s i) (hv.look i)
theorem chd_unk {W w : World} (hN : NG3 W) {a : Addr} (ha : W.cell? ⟨1, 0, none⟩ = some (errV a)) : Chd W w (errV a) 8 := by
  obtain ⟨a', c, t, h1, h2⟩ := hN.n2.lay 1 (by simp [four])
  rw [ha] at h1
  unfold errV at h1
  injection h1 with h1
  injection h1 with _ h1
  injection h1 with h1
  injection h1 with h1
  subst h1
  exact ⟨a, [], .nil, ⟨c, t, h2⟩, hN.dis _ (by simp [four]) _ (by simp [four]) (by decide) a ha, hN.dis _ (by simp [four]) _ (by simp [four]) (by decide) a ha, .unk (by simp) (hN.dis _ (by simp [four]) _ (by simp [four]) (by decide) a ha) (by simp) ha⟩
set_option maxRecDepth 20000 in
set_option maxHeartbeats 4000000 in
theorem lastDoc_c (W : World) (hN : NG3 W) (w : World) (hW : Below W.heap.size W w) (F : Nat → Prop) (kb : Nat) (hkW : W.heap.size ≤ kb) (st : Ldg) (c : Nat) (h : KN w F kb st c) (s : Bs) (hs : s.length ≤ 2000000) :
    Calls Tryz.prog 29 #[.pointer (some ⟨kb, 0, none⟩), .string ⟨s.toArray⟩] w fun e w' => Kp (fun _ => False) w w' ∧ match st.docs s with
      | none => ∃ tt uu, e = .returned (.tuple #[.string ⟨#[]⟩, .iface tt uu]) ∧ Chd W w' (.iface tt uu) 8
      | some t => e = .returned (.tuple #[.string ⟨t.toArray⟩, .nilIface]) := by
  obtain ⟨mb, ib, sm, im, Bf, Qf, qm, hk⟩ := h
  obtain ⟨ea, hea⟩ : ∃ ea, W.cell? ⟨1, 0, none⟩ = some (errV ea) := by
    obtain ⟨a, _, _, h, _⟩ := hN.n2.lay 1 (by simp [four])
    exact ⟨a, h⟩
  obtain ⟨c0, c2, c3, f0⟩ := kn_facts hk.kblk
  obtain ⟨d0, d2, d3, g0⟩ := held_facts hk.kblk
  have hgw : 1 < W.heap.size := lt_cell hea
  have hce : (held kb w).cell? ⟨1, 0, none⟩ = some (errV ea) := by
    have h1 := Below.cl hW hea
    unfold World.cell? at h1 ⊢
    rw [held_heap (by show 1 ≠ kb; omega)]
    exact h1
  have hlk := mlook Tryz.underlying100 zSrv (held kb w) sm mb sm.length s (by omega) (ownsMap_heap hk.ms (held_heap (mapT_ne hk.ms hk.kblk)))
  rw [hk.look s] at hlk
  have HB := hide (fun X (hX : Kp (fun _ => False) (held kb w) X) => lock_frame hk.kblk hX)
  unfold errV at hce
  cases hd : st.docs s with
  | none =>
    rw [hd] at hlk
    replace hlk : (Instr.lookup 100 (.map (some mb)) (.string ⟨s.toArray⟩) true).run Tryz.prog (held kb w) = .ok (.tuple #[.pointer none, .bool false]) (held kb w) := hlk
    unfold held at *
    clear hd
    go_enter_defers Tryz.func29, Tryz.ntmps29
    go_wp2_with (go_at_call 52; refine (lock_free Tryz.muLib ⟨kb, 0, none⟩ _ c0 f0).mono ?_; rintro e w' ⟨rfl, rfl⟩)
    go_region
    all_goals go_wp2
    all_goals refine leaves_cons (f := 53) (args := #[.pointer (some ⟨kb, 0, none⟩)]) (by simp) (by simp [go_sem]) ?_
    all_goals refine (unlock_deferred Tryz.muLib ⟨kb, 0, none⟩ .returning _ (HB.out _ (Kp.refl _ _).drew).1 (HB.out _ (Kp.refl _ _).drew).2.1).mono ?_
    all_goals rintro e u' w'' ⟨rfl, rfl, rfl⟩
    all_goals exact ⟨_, results_tmp2 rfl _ _ _, (HB.out _ (Kp.refl _ _).drew).2.2, _, _, rfl, chd_unk hN hea⟩
  | some t =>
    rw [hd] at hlk
    replace hlk : (Instr.lookup 100 (.map (some mb)) (.string ⟨s.toArray⟩) true).run Tryz.prog (held kb w) = .ok (.tuple #[.pointer (some ⟨Bf s, 0, none⟩), .bool true]) (held kb w) := hlk
    have hv := (hk.srv s t hd).1
    obtain ⟨s0, s1, _⟩ := srv_facts ((held_heap (srv_ne hv.blk hk.kblk)).trans hv.blk)
    clear hv hd
    unfold held at *
    go_enter_defers Tryz.func29, Tryz.ntmps29
    go_wp2_with (go_at_call 52; refine (lock_free Tryz.muLib ⟨kb, 0, none⟩ _ c0 f0).mono ?_; rintro e w' ⟨rfl, rfl⟩)
    refine leaves_cons (f := 53) (args := #[.pointer (some ⟨kb, 0, none⟩)]) (by simp) (by simp [go_sem]) ?_
    refine (unlock_deferred Tryz.muLib ⟨kb, 0, none⟩ .returning _ (HB.out _ (Kp.refl _ _)).1 (HB.out _ (Kp.refl _ _)).2.1).mono ?_
    rintro e u' w'' ⟨rfl, rfl, rfl⟩
    exact ⟨_, results_tmp2 rfl _ _ _, (HB.out _ (Kp.refl _ _)).2.2, rfl⟩
end Go.Proofs.YtocligpfmfmihabGreatDoor
namespace Go.Proofs.YtocligpfmfmihabGreatDoor
open Go Go.RowKit Go.Maps Go.WideMaps Go.MuLone
attribute [local go_sem] Oper.semAt_some

theorem sealF_len (a b : ByteArray) : (sealF a b).size = 8 := by
  unfold sealF hexL
  show (List.toArray _).size = 8
  simp
/-- What countersign comes to. -/
def CoR (W w : World) (t nm id ky : Bs) (e : Ending) (w' : World) : Prop := Kp (fun _ => False) w w' ∧
  ((∃ n tt uu, objectF t = .error n ∧ e = .returned (.tuple #[.map none, .iface tt uu]) ∧ EV W w' (.iface tt uu) n) ∨
   (∃ l, objectF t = .ok l ∧ SgR W w l nm id (sealF ⟨ky.toArray⟩ ⟨(bareF l).toArray⟩).data.toList e w'))
set_option maxRecDepth 20000 in
set_option maxHeartbeats 4000000 in
theorem countersign_c (W : World) (hN : NG W) (w : World) (hW : Below W.heap.size W w) (nb kb : Nat) (nm id ky : Bs) (so : Value) (hb : w.heap[nb]? = some (ntObj nm id ky so kb)) (t : Bs) (h1 : nm.length ≤ 2000000) (h2 : id.length ≤ 2000000) (h3 : ky.length ≤ 2000000) :
    Calls Tryz.prog 31 #[.pointer (some ⟨nb, 0, none⟩), .string ⟨t.toArray⟩] w fun e w' => CoR W w t nm id ky e w' := by
  have e9 : (⟨t.toArray⟩ : ByteArray).data.toList = t := by simp
  have HR := hide (readObject_c W hN ⟨t.toArray⟩ w hW)
  rw [e9] at HR
  clear e9
  go_enter Tryz.func31, Tryz.ntmps31
  go_wp2_with fail
  refine HR.out.mono ?_
  rintro e w1 ⟨K1, ⟨l, b, hof, rfl, hr⟩ | ⟨n, ev, hof, rfl, he, tt, u, rfl⟩⟩
  · have oz : Oz w1 l b := Rep.mono (fun j hj => hj.2) _ hr
    obtain ⟨hp, hl⟩ := object_ok hof
    obtain ⟨hwf, hle⟩ := parse_ok hp
    have hcl : (cJ (.obj l)).length ≤ 600 := Nat.le_trans hle hl
    obtain ⟨f1, f2, f3, f4⟩ := bare_fits hwf hcl
    have hcn := cnt_le (.obj l)
    simp only [cnt] at hcn
    have hcm : cntm l ≤ 1000000 := by omega
    have hn1 := K1.heap hb
    obtain ⟨n0, n1, n2, n3, n4⟩ := nt_facts hn1
    have HK1 := hide K1
    have HO := hide (And.intro oz (And.intro hof (And.intro hwf hcm)))
    have HMS : Hid (∀ X, Kp (fun _ => False) w1 X → Calls Tryz.prog 34 #[.map (some b)] X fun e w' => e = .returned (.string ⟨(bareF l).toArray⟩) ∧ Kp (fun _ => False) X w') := fun X hX => messageOf_c W hN X (below_kp hW (HK1.out.trans hX)) _ l b (oz.up hX) (fun _ h => h) f1 f2 f3
    obtain ⟨tl, htl⟩ : ∃ tl : Bs, sealF ⟨ky.toArray⟩ ⟨(bareF l).toArray⟩ = ⟨tl.toArray⟩ := ⟨_, rfl⟩
    have hsl : tl.length = 8 := by
      have := sealF_len ⟨ky.toArray⟩ ⟨(bareF l).toArray⟩
      rw [htl, mk_size2] at this
      exact this
    have HSE : Hid (∀ X, Calls Tryz.prog 19 #[.string ⟨ky.toArray⟩, .string ⟨(bareF l).toArray⟩] X fun e w' => e = .returned (.string ⟨tl.toArray⟩) ∧ Kp (fun _ => False) X w') := fun X => by
      refine (seal_any ⟨ky.toArray⟩ ⟨(bareF l).toArray⟩ X (by rw [mk_size2]; omega) (by rw [mk_size2]; omega)).mono ?_
      rintro e w' ⟨rfl, hb⟩
      exact ⟨by rw [htl], Kp.of_below hb⟩
    have HTL := hide htl
    have HWS : Hid (∀ X, Kp (fun _ => False) w1 X → Calls Tryz.prog 42 #[.map (some b), .string ⟨nm.toArray⟩, .string ⟨id.toArray⟩, .string ⟨tl.toArray⟩] X fun e w' => SgR W X l nm id tl e w') := fun X hX => by
      have h := withSig_c W hN X (below_kp hW (HK1.out.trans hX)) l b (oz.up hX) hwf hcm ⟨nm.toArray⟩ ⟨id.toArray⟩ ⟨tl.toArray⟩ (by rw [mk_size2]; omega) (by rw [mk_size2]; omega) (by rw [mk_size2]; omega)
      simpa using h
    have HSK : Hid (∀ X, Kp (fun _ => False) w1 X → Kp (fun _ => False) w1 X ∧ X.cell? ⟨nb, 0, none⟩ = some (.string ⟨nm.toArray⟩) ∧ X.cell? ⟨nb, 1, none⟩ = some (.string ⟨id.toArray⟩) ∧ X.cell? ⟨nb, 2, none⟩ = some (.string ⟨ky.toArray⟩)) := fun X hX => by
      obtain ⟨m0, m1, m2, _⟩ := nt_facts (hX.heap hn1)
      exact ⟨hX, m0, m1, m2⟩
    clear oz hof hwf hp hl hle hcl f1 f2 f3 f4 hcn hr htl HR K1 n0 n1 n2 n3 n4
    cases hvd : (Lib.validD nm && Lib.validD id && Lib.validD tl) with
    | true =>
      have HV := hide hvd
      clear hvd
      go_wp2_with fail
      go_region_held (fun X => Kp (fun _ => False) w1 X ∧ X.cell? ⟨nb, 0, none⟩ = some (.string ⟨nm.toArray⟩) ∧ X.cell? ⟨nb, 1, none⟩ = some (.string ⟨id.toArray⟩) ∧ X.cell? ⟨nb, 2, none⟩ = some (.string ⟨ky.toArray⟩))
        (first | exact HSK.out _ (Kp.refl _ w1).drew | exact HSK.out _ HW.out.1 | exact HSK.out _ HS.out | exact HSK.out _ HM.out)
        (first
          | (go_at_call 34; refine (HMS.out _ (Kp.refl _ w1).drew).mono ?_; rintro e w2 ⟨rfl, K2⟩; have HM := hide (((Kp.refl (fun _ => False) w1).drew).trans K2); clear K2)
          | (go_at_call 19; refine (HSE.out _).mono ?_; rintro e w3 ⟨rfl, K3⟩; have HS := hide (HM.out.trans K3); clear K3)
          | (go_at_call 42; refine (HWS.out _ HS.out).mono ?_; rintro e w4 ⟨K4, h4⟩; obtain ⟨_, b2, rfl, o2⟩ := h4.resolve_right (by rintro ⟨h, _⟩; rw [HV.out] at h; cases h); have HW := hide (And.intro (HS.out.trans K4) o2); clear K4 h4 o2))
      all_goals go_wp2
      all_goals go_ret2
      all_goals exact ⟨HK1.out.trans HW.out.1, Or.inr ⟨l, HO.out.2.1, HK1.out.trans HW.out.1, Or.inl ⟨by rw [HTL.out]; simpa using HV.out, b2, rfl, by rw [HTL.out]; simpa using HW.out.2⟩⟩⟩
    | false =>
      have HV := hide hvd
      clear hvd
      go_wp2_with fail
      go_region_held (fun X => Kp (fun _ => False) w1 X ∧ X.cell? ⟨nb, 0, none⟩ = some (.string ⟨nm.toArray⟩) ∧ X.cell? ⟨nb, 1, none⟩ = some (.string ⟨id.toArray⟩) ∧ X.cell? ⟨nb, 2, none⟩ = some (.string ⟨ky.toArray⟩))
        (first | exact HSK.out _ (Kp.refl _ w1).drew | exact HSK.out _ HW.out.1 | exact HSK.out _ HS.out | exact HSK.out _ HM.out)
        (first
          | (go_at_call 34; refine (HMS.out _ (Kp.refl _ w1).drew).mono ?_; rintro e w2 ⟨rfl, K2⟩; have HM := hide (((Kp.refl (fun _ => False) w1).drew).trans K2); clear K2)
          | (go_at_call 19; refine (HSE.out _).mono ?_; rintro e w3 ⟨rfl, K3⟩; have HS := hide (HM.out.trans K3); clear K3)
          | (go_at_call 42; refine (HWS.out _ HS.out).mono ?_; rintro e w4 ⟨K4, h4⟩; obtain ⟨_, ev, rfl, he, tt, uu, rfl⟩ := h4.resolve_left (by rintro ⟨h, _⟩; rw [HV.out] at h; cases h); have HW := hide (And.intro (HS.out.trans K4) he); clear K4 h4 he))
      all_goals go_wp2
      all_goals go_ret2
      all_goals exact ⟨HK1.out.trans HW.out.1, Or.inr ⟨l, HO.out.2.1, HK1.out.trans HW.out.1, Or.inr ⟨by rw [HTL.out]; simpa using HV.out, _, rfl, HW.out.2, _, _, rfl⟩⟩⟩
  · have HE := hide (And.intro hof (And.intro he K1))
    clear he hof K1 HR
    go_wp2
    go_ret2
    exact ⟨HE.out.2.2, Or.inl ⟨n, _, _, HE.out.1, rfl, HE.out.2.1⟩⟩
end Go.Proofs.YtocligpfmfmihabGreatDoor
namespace Go.Proofs.YtocligpfmfmihabGreatDoor
open Go Go.RowKit Go.Maps Go.WideMaps Go.MuLone
attribute [local go_sem] Oper.semAt_some

set_option maxRecDepth 20000 in
set_option maxHeartbeats 4000000 in
theorem answer_c (W : World) (hN : NG3 W) (w : World) (hW : Below W.heap.size W w) (F : Nat → Prop) (hFl : ∀ k, F k → W.heap.size ≤ k) (nb : Nat) (nm id ky : Bs) (srcs : List Bs) (st : Ldg) (c : Nat) (hP : PN w F nb nm id ky srcs st c) (s : Bs) (hs : s.length ≤ 2000000) (h1 : nm.length ≤ 2000000) (h2 : id.length ≤ 2000000) (h3 : ky.length ≤ 2000000) :
    Calls Tryz.prog 12 #[.pointer (some ⟨nb, 0, none⟩), .string ⟨s.toArray⟩] w fun e w' => AnsR w (answerS st nm id ky s) e w' := by
  obtain ⟨Fk, kb, so, hp⟩ := hP
  have hkb : W.heap.size ≤ kb := by
    obtain ⟨mb, ib, sm, im, Bf, Qf, qm, hk⟩ := hp.kn
    exact hFl kb (hp.fk kb hk.fk)
  have HL := hide (lastDoc_c W hN w hW Fk kb hkb st c hp.kn s hs)
  obtain ⟨n0, n1, n2, n3, n4⟩ := nt_facts hp.nblk
  have HP := hide hp
  clear hp
  go_enter Tryz.func12, Tryz.ntmps12
  go_wp2_with fail
  refine HL.out.mono ?_
  rintro e w1 ⟨K1, h4⟩
  have HK1 := hide K1
  clear K1 HL n0 n1 n2 n3 n4
  cases hd : st.docs s with
  | none =>
    rw [hd] at h4
    obtain ⟨tt, uu, rfl, he⟩ := h4
    have HE := hide (errno_a W hN.n2 w1 (below_kp hW HK1.out) _ 8 (Or.inr he))
    have HA := hide (show answerS st nm id ky s = ([], 8) by unfold answerS; rw [hd])
    clear he hd
    go_wp2_with fail
    refine HE.out.mono ?_
    rintro e w2 ⟨rfl, K2⟩
    have HK2 := hide (HK1.out.trans K2)
    clear K2
    go_wp2
    go_ret2
    rw [HA.out]
    exact ⟨rfl, HK2.out⟩
  | some t =>
    rw [hd] at h4
    replace h4 : e = .returned (.tuple #[.string ⟨t.toArray⟩, .nilIface]) := h4
    subst h4
    have HC := hide (countersign_c W hN.n2.ng w1 (below_kp hW HK1.out) nb kb nm id ky so (HK1.out.heap HP.out.nblk) t h1 h2 h3)
    have hA : answerS st nm id ky s = signedF t nm id (sealF ⟨ky.toArray⟩ ⟨(messageF t).1.toArray⟩).data.toList := by unfold answerS; rw [hd]
    have HA := hide hA
    clear hA hd
    go_wp2_with fail
    refine HC.out.mono ?_
    rintro e w2 ⟨K2, h5⟩
    have HK2 := hide (HK1.out.trans K2)
    clear K2 HC
    rcases h5 with ⟨n, tt, uu, hof, rfl, he⟩ | ⟨l, hof, _, hsg⟩
    · have HE := hide (errno_c W hN.n2.ng w2 (below_kp hW HK2.out) _ n he)
      have HS := hide (show signedF t nm id (sealF ⟨ky.toArray⟩ ⟨(messageF t).1.toArray⟩).data.toList = ([], n) by unfold signedF signedE; rw [hof]; rfl)
      clear he hof
      go_wp2_with fail
      refine HE.out.mono ?_
      rintro e w3 ⟨rfl, K3⟩
      have HK3 := hide (HK2.out.trans K3)
      clear K3
      go_wp2
      go_ret2
      rw [HA.out, HS.out]
      exact ⟨rfl, HK3.out⟩
    · have hms : (messageF t).1 = bareF l := by unfold messageF; rw [hof]; rfl
      rw [hms] at HA
      obtain ⟨tl, htl⟩ : ∃ tl : Bs, (sealF ⟨ky.toArray⟩ ⟨(bareF l).toArray⟩).data.toList = tl := ⟨_, rfl⟩
      have hsl : tl.length = 8 := by
        have := sealF_len ⟨ky.toArray⟩ ⟨(bareF l).toArray⟩
        rw [← htl, dlen]
        exact this
      rw [htl] at HA hsg
      clear hms htl
      rcases hsg with ⟨hvd, b2, rfl, o2⟩ | ⟨hvd, ev, rfl, he, tt, uu, rfl⟩
      · obtain ⟨hp, hl⟩ := object_ok hof
        have hok := parse_ok hp
        have hz := sign_size hp hl nm id tl h1 h2 (by omega)
        have hm : (cnt (.obj (signL l nm id tl)) + 1) * ((cJ (.obj (signL l nm id tl))).length + 2) ≤ 2001 * 90000002 := Nat.mul_le_mul (by omega) (by omega)
        have hwf : WF 6 (.obj (signL l nm id tl)) := by
          have hh := hvd
          simp only [Bool.and_eq_true] at hh
          exact WF_signL l _ _ _ hok.1 hh.1.1 hh.1.2 hh.2
        have HV := hide (vcanon_c W hN.n2.ng.gl 6 (.obj (signL l nm id tl)) hwf (by omega) (by omega) _ _ w2 (below_kp hW HK2.out) o2)
        have HS := hide (show signedF t nm id tl = (cJ (.obj (signL l nm id tl)), 0) by unfold signedF signedE; rw [hof]; simp only [hvd]; rfl)
        clear hvd o2 hof hp hl hok hz hm hwf
        go_wp2_with fail
        refine HV.out.mono ?_
        rintro e w3 ⟨rfl, hw⟩
        have HK3 := hide (HK2.out.trans (kp_wr hw))
        clear hw
        go_wp2
        go_ret2
        rw [HA.out, HS.out]
        exact ⟨rfl, HK3.out⟩
      · have HE := hide (errno_c W hN.n2.ng w2 (below_kp hW HK2.out) _ 2 he)
        have HS := hide (show signedF t nm id tl = ([], 2) by unfold signedF signedE; rw [hof]; simp only [hvd]; rfl)
        clear he hvd hof
        go_wp2_with fail
        refine HE.out.mono ?_
        rintro e w3 ⟨rfl, K3⟩
        have HK3 := hide (HK2.out.trans K3)
        clear K3
        go_wp2
        go_ret2
        rw [HA.out, HS.out]
        exact ⟨rfl, HK3.out⟩
end Go.Proofs.YtocligpfmfmihabGreatDoor
namespace Go.Proofs.YtocligpfmfmihabGreatDoor
open Go Go.RowKit Go.Maps Go.WideMaps Go.MuLone
attribute [local go_sem] Oper.semAt_some

theorem nilS (w : World) : (binOp .eql 26 (.slice none 0 0) (.slice none 0 0)).run Tryz.prog w = .ok (.bool true) w := by kernel_rfl
theorem someS (ad : Addr) (n c : Nat) (w : World) : (binOp .eql 26 (.slice (some ad) n c) (.slice none 0 0)).run Tryz.prog w = .ok (.bool false) w := by kernel_rfl
set_option maxRecDepth 20000 in
set_option maxHeartbeats 4000000 in
theorem clone_c (w : World) (B : Nat) (v : Value) (xs : List Bs) (row : w.ownsRow B 9 1 v xs.length (xs.map fun s => .string ⟨s.toArray⟩)) (hn : xs.length ≤ 1100000000) :
    Calls Tryz.prog 20 #[v] w fun e w' => ∃ v', e = .returned v' ∧ Kp (fun _ => False) w w' ∧ w'.ownsRow w.heap.size 9 1 v' xs.length (xs.map fun s => .string ⟨s.toArray⟩) := by
  obtain ⟨va, vc, rfl⟩ := own_slice row
  cases va with
  | none =>
    have hz : xs = [] ∧ vc = 0 := by
      rcases row.2 with ⟨e1, e⟩ | ⟨g, cap, cur, e, _⟩
      · injection e1 with _ _ e1
        exact ⟨List.length_eq_zero_iff.1 e, e1⟩
      · injection e with e; cases e
    obtain ⟨rfl, rfl⟩ := hz
    clear row
    have hq := nilS
    go_enter Tryz.func20, Tryz.ntmps20
    go_wp2
    go_ret
    exact ⟨_, rfl, Kp.refl _ _, World.ownsRow_nil _ _ _ _⟩
  | some ad =>
    have hq := someS ad xs.length vc
    go_enter Tryz.func20, Tryz.ntmps20
    obtain ⟨i0, hi, hz0, hz1, hz2⟩ := info_parts infoStr
    obtain ⟨g, rfl⟩ : ∃ g, ad = ⟨g, 0, none⟩ := by
      rcases row.2 with ⟨e1, _⟩ | ⟨g, cap, cur, e, _⟩
      · injection e1 with e1; cases e1
      · injection e with e
        injection e with e
        exact ⟨g, e⟩
    have hnew : ∀ ad, some (⟨g, 0, none⟩ : Addr) = some ad → ∀ j u, (xs.map fun s => Value.string ⟨s.toArray⟩)[j]? = some u → (w.alloc (.cells #[] 9)).cell? (ad.add j) = some u := by
      intro ad h j u hu
      injection h with h
      subst h
      exact (row.alloc (.cells #[] 9)).cells (g := g) rfl j u hu
    have hone : ∀ u ∈ (xs.map fun s => Value.string ⟨s.toArray⟩), u.oneCell' = true := by
      intro u hu
      obtain ⟨s, _, rfl⟩ := List.mem_map.1 hu
      rfl
    have r0 := World.ownsRow_lit (base := w.heap.size) (e := 9) (size := 1) w #[] 0 (Nat.le_refl _) (Nat.zero_le _) rfl
    have HN := hide (And.intro hnew (And.intro hone r0))
    clear hnew hone r0 row
    go_wp2_with (at_builtin; (refine wpList_append_any _ rfl _ _ 26 rfl w.heap.size 9 i0 (.string ⟨#[]⟩) 1 16 Tryz.underlying26 hi hz0 hz1 hz2 rfl (by decide) _ _ _ rfl HN.out.2.2 (some ⟨g, 0, none⟩) xs.length vc (xs.map fun s => Value.string ⟨s.toArray⟩) rfl (by simp) (fun h => by cases h) HN.out.1 HN.out.2.1 (by unfold maxLen; omega) (by omega) (by simp) ?_))
    intro v' w' y1 y2 y3
    have K2 : Kp (fun _ => False) w w' := ((Kp.refl _ w).alloc _).gr y2 (fun r e => by have := Option.some.inj (show some w.heap.size = some r from e); omega)
    have HY := hide (And.intro y1 K2)
    clear y1 y2 y3 K2
    go_wp2
    go_ret
    refine ⟨_, rfl, HY.out.2, ?_⟩
    exact HY.out.1
set_option maxRecDepth 20000 in
theorem newKnown_c (w : World) : Calls Tryz.prog 21 #[] w fun e w' => ∃ F kb, e = .returned (.pointer (some ⟨kb, 0, none⟩)) ∧ Kp (fun _ => False) w w' ∧ KN w' F kb Ldg.zero 0 ∧ (∀ k, F k → w.heap.size ≤ k ∧ k < w'.heap.size) := by
  have hm1 : ∀ (w : World), (Instr.makeMap 100 none).run Tryz.prog w = .ok (.map (some w.heap.size)) (w.alloc (.map #[] 0)) := by
    intro w
    simp [Instr.makeMap, Result.andThen]
  have hm2 : ∀ (w : World), (Instr.makeMap 101 none).run Tryz.prog w = .ok (.map (some w.heap.size)) (w.alloc (.map #[] 0)) := by
    intro w
    simp [Instr.makeMap, Result.andThen]
  go_enter Tryz.func21, Tryz.ntmps21
  go_wp2
  go_ret
  obtain ⟨i1, i2, i3⟩ := three_new w (.map #[] 0) (.map #[] 0) (.cells #[.int .i32 0, .int .u32 0, .map (some w.heap.size), .map (some (w.heap.size + 1))] 109)
  have o1 : (w.alloc (.map #[] 0)).ownsMap Tryz.prog 9 Rv w.heap.size 0 (dm []) := by simpa [dm] using World.ownsMap_made w Tryz.prog 9 Rv
  have o2 : ((w.alloc (.map #[] 0)).alloc (.map #[] 0)).ownsMap Tryz.prog 9 Rv (w.heap.size + 1) 0 (dm []) := by
    have h := World.ownsMap_made (w.alloc (.map #[] 0)) Tryz.prog 9 Rv
    rw [World.size_alloc] at h
    simpa [dm] using h
  have Kf : Kp (fun _ => False) w (((w.alloc (.map #[] 0)).alloc (.map #[] 0)).alloc (.cells #[.int .i32 0, .int .u32 0, .map (some w.heap.size), .map (some (w.heap.size + 1))] 109)) := (((Kp.refl _ _).alloc _).alloc _).alloc _
  have hsz : (((w.alloc (.map #[] 0)).alloc (.map #[] 0)).alloc (.cells #[.int .i32 0, .int .u32 0, .map (some w.heap.size), .map (some (w.heap.size + 1))] 109)).heap.size = w.heap.size + 3 := by simp
  refine ⟨fun k => k = w.heap.size ∨ k = w.heap.size + 1 ∨ k = w.heap.size + 1 + 1, w.heap.size + 1 + 1, rfl, Kf, ⟨w.heap.size, w.heap.size + 1, [], [], fun _ => 0, fun _ => 0, fun _ => [], ?_⟩, ?_⟩
  · refine ⟨i3, ?_, ?_, List.Pairwise.nil, List.Pairwise.nil, fun _ => rfl, fun _ => rfl, fun _ _ h => (by cases h), fun _ _ _ => rfl, fun _ _ _ _ h => (by cases h), fun _ _ h => (by cases h), (by omega), Nat.le_refl _, Nat.le_refl _, Or.inr (Or.inr rfl), Or.inl rfl, Or.inr (Or.inl rfl), fun _ _ h => by cases h⟩
    · refine ownsMap_heap o1 ?_
      rw [i1, heap_alloc_new]
    · refine ownsMap_heap o2 ?_
      rw [i2]
      have h := heap_alloc_new (w.alloc (.map #[] 0)) (.map #[] 0)
      rw [World.size_alloc] at h
      exact h.symm
  · rintro k (rfl | rfl | rfl)
    all_goals rw [hsz]
    all_goals omega
set_option maxRecDepth 20000 in
set_option maxHeartbeats 4000000 in
theorem new_c (w : World) (nm id ky : Bs) (B : Nat) (v : Value) (xs : List Bs) (row : w.ownsRow B 9 1 v xs.length (xs.map fun s => .string ⟨s.toArray⟩)) (hn : xs.length ≤ 1100000000) :
    Calls Tryz.prog 9 #[.string ⟨nm.toArray⟩, .string ⟨id.toArray⟩, .string ⟨ky.toArray⟩, v] w fun e w' => ∃ F nb, e = .returned (.pointer (some ⟨nb, 0, none⟩)) ∧ Kp (fun _ => False) w w' ∧ PN w' F nb nm id ky xs Ldg.zero 0 ∧ (∀ k, F k → w.heap.size ≤ k) := by
  have HC : Hid (∀ X, Kp (fun _ => False) w X → Calls Tryz.prog 20 #[v] X fun e w' => ∃ v', e = .returned v' ∧ Kp (fun _ => False) X w' ∧ w'.ownsRow X.heap.size 9 1 v' xs.length (xs.map fun s => .string ⟨s.toArray⟩)) := fun X hX => clone_c X B v xs (ownsRow_kp row hX (by simp)) hn
  obtain ⟨va, vc, rfl⟩ := own_slice row
  clear row
  go_enter Tryz.func9, Tryz.ntmps9
  go_wp2_with fail
  refine (HC.out w (Kp.refl _ _)).mono ?_
  rintro e w1 ⟨v1, rfl, K1, row1⟩
  obtain ⟨v1a, v1c, rfl⟩ := own_slice row1
  have HR := hide row1
  have HK1 := hide K1
  clear row1 K1 HC
  go_wp2_with fail
  refine (newKnown_c w1).mono ?_
  rintro e w2 ⟨Fk, kb, rfl, K2, hkn, hFk⟩
  have HN := hide (And.intro K2 (And.intro hkn hFk))
  clear K2 hkn hFk
  go_wp2
  go_ret
  have K3 : Kp (fun _ => False) w2 (w2.alloc (.cells #[.string ⟨nm.toArray⟩, .string ⟨id.toArray⟩, .string ⟨ky.toArray⟩, .slice v1a xs.length v1c, .pointer (some ⟨kb, 0, none⟩)] 55)) := (Kp.refl _ _).alloc _
  have row3 := ownsRow_kp HR.out (HN.out.1.trans K3) (by simp)
  have hs1 := HK1.out.size
  have hs2 := HN.out.1.size
  refine ⟨fun k => Fk k ∨ k = w2.heap.size ∨ (Value.slice v1a xs.length v1c).ownBlock = some k, w2.heap.size, rfl, (HK1.out.trans HN.out.1).trans K3, ⟨Fk, kb, .slice v1a xs.length v1c, ?_⟩, ?_⟩
  · refine ⟨heap_alloc_new w2 _, HN.out.2.1.kp (fun k h => (HN.out.2.2 k h).2) K3, own_base (Nat.zero_le _) row3, Or.inr (Or.inl rfl), ?_, fun _ h => Or.inl h, ?_, ?_⟩
    · intro k e
      refine ⟨Or.inr (Or.inr e), fun hf => ?_⟩
      have h1 := (HN.out.2.2 k hf).1
      have h2 := (HR.out.lt k e).2
      omega
    · intro hf
      have := (HN.out.2.2 _ hf).2
      omega
    · rw [World.size_alloc]
      rintro k (hf | rfl | e)
      · have := (HN.out.2.2 k hf).2
        omega
      · omega
      · have := (HR.out.lt k e).2
        omega
  · rintro k (hf | rfl | e)
    · have := (HN.out.2.2 k hf).1
      omega
    · omega
    · exact (HR.out.lt k e).1
end Go.Proofs.YtocligpfmfmihabGreatDoor

import Derived.Test.YtocligpfmfmihaaGreatDoorRea7
import Derived.Test.YtocligpfmfmihaaGreatDoorRef23G
import Derived.Test.YtocligpfmfmihaaGreatDoorRef27G
namespace Go.Proofs.YtocligpfmfmihaaGreatDoor
open Go Go.RowKit Go.Maps

/-- Is a key's own signature there? -/
def sgOk (l : List (Bs × J)) (s : Bs) (k : Ky) : Bool :=
  k.old || match memF k.id (memF s (memF kSig (some (.obj l)))) with | some (.str t) => decide (t = (sealF ⟨k.key.toArray⟩ ⟨(bareF l).toArray⟩).data.toList) | _ => false
/-- What Read tells of an object. -/
def readO (l : List (Bs × J)) : Except Nat (Bs × Int × List Ky) :=
  match docF l with
  | none => .error 4
  | some (s, u, ks) => if ks.all (sgOk l s) then .ok (s, u, ks) else .error 5
def readF (t : Bs) : Except Nat (Bs × Int × List Ky) := match objectF t with | .error n => .error n | .ok l => readO l
/-- What Read comes to. -/
def RdR (w : World) (o : Except Nat (Bs × Int × List Ky)) (e : Ending) (w' : World) : Prop :=
  Kp (fun _ => False) w w' ∧ match o with
  | .error n => e = .returned (.tuple #[.agg #[.string ⟨#[]⟩, .int .i64 0, .slice none 0 0], .int .i64 (n : Int)])
  | .ok (s, u, ks) => ∃ v, e = .returned (.tuple #[.agg #[.string ⟨s.toArray⟩, .int .i64 u, v], .int .i64 0]) ∧ w'.ownsRow w.heap.size 35 4 v ks.length (ks.flatMap kyC)
theorem rd_err {w w6 : World} {o : Except Nat (Bs × Int × List Ky)} {n : Nat} (h : Kp (fun _ => False) w w6) (ho : o = .error n) : RdR w o (.returned (.tuple #[.agg #[.string ⟨#[]⟩, .int .i64 0, .slice none 0 0], .int .i64 (n : Int)])) (((w6.setCell ⟨w.heap.size, 0, none⟩ (.string ⟨#[]⟩)).setCell ⟨w.heap.size, 1, none⟩ (.int .i64 0)).setCell ⟨w.heap.size, 2, none⟩ (.slice none 0 0)) := by
  subst ho
  exact ⟨kp3 h, rfl⟩
theorem rd_ok {w w6 : World} {B : Nat} {o : Except Nat (Bs × Int × List Ky)} {s : Bs} {u : Int} {ks : List Ky} {v : Value} (h : Kp (fun _ => False) w w6) (hB : w.heap.size < B) (row : w6.ownsRow B 35 4 v ks.length (ks.flatMap kyC)) (ho : o = .ok (s, u, ks)) :
    RdR w o (.returned (.tuple #[.agg #[.string ⟨s.toArray⟩, .int .i64 u, v], .int .i64 0])) (((w6.setCell ⟨w.heap.size, 0, none⟩ (.string ⟨s.toArray⟩)).setCell ⟨w.heap.size, 1, none⟩ (.int .i64 u)).setCell ⟨w.heap.size, 2, none⟩ v) := by
  subst ho
  refine ⟨kp3 h, v, rfl, ?_⟩
  refine own_base (Nat.le_of_lt hB) (ownsRow_heap row fun k hk => ?_)
  have hk2 := (row.lt k hk).1
  rw [heap_set_other (by show k ≠ w.heap.size; omega), heap_set_other (by show k ≠ w.heap.size; omega), heap_set_other (by show k ≠ w.heap.size; omega)]
theorem rd_erra {w w6 : World} {o : Except Nat (Bs × Int × List Ky)} {n : Nat} {D : Obj} (h : Kp (fun _ => False) w w6) (ho : o = .error n) : RdR w o (.returned (.tuple #[.agg #[.string ⟨#[]⟩, .int .i64 0, .slice none 0 0], .int .i64 (n : Int)])) ((((w6.setCell ⟨w.heap.size, 0, none⟩ (.string ⟨#[]⟩)).setCell ⟨w.heap.size, 1, none⟩ (.int .i64 0)).setCell ⟨w.heap.size, 2, none⟩ (.slice none 0 0)).alloc D) := by
  subst ho
  exact ⟨(kp3 h).alloc _, rfl⟩
theorem set3a {w : World} {q : Nat} {x y z a b c : Value} {T : TypeId} {D : Obj} (h : w.heap[q]? = some (.cells #[x, y, z] T)) : ((((w.setCell ⟨q, 0, none⟩ a).setCell ⟨q, 1, none⟩ b).setCell ⟨q, 2, none⟩ c).alloc D).heap[q]? = some (.cells #[a, b, c] T) := by
  have h3 := set3 (a := a) (b := b) (c := c) h
  rw [Below.heap_alloc _ _ _ (lt_heap h3)]
  exact h3
set_option maxRecDepth 20000 in
set_option maxHeartbeats 4000000 in
/-- Read, where it is no document. -/
theorem rread_no (W : World) (hG : GL W) (s : ByteArray) (w : World) (ho : Below W.heap.size W w) (hno : ∀ o, objectF s.data.toList = .ok o → docF o = none) :
    Calls Tryz.prog 21 #[.string s] w fun e w' => RdR w (readF s.data.toList) e w' := by
  have K0 : Kp (fun _ => False) w (w.alloc (.cells #[.string ⟨#[]⟩, .int .i64 0, .slice none 0 0] 30)) := (Kp.refl _ _).alloc _
  have I0 := heap_alloc_new w (.cells #[.string ⟨#[]⟩, .int .i64 0, .slice none 0 0] 30)
  have hob := robject_c W hG s _ (below_kp ho K0)
  have HOB := hide hob
  clear hob
  go_enter Tryz.func21, Tryz.ntmps21
  go_wp2_with fail
  generalize (w.alloc (.cells #[.string ⟨#[]⟩, .int .i64 0, .slice none 0 0] 30)) = w0 at *
  refine HOB.out.mono ?_
  rintro e w1 ⟨K1, ⟨n, hn, hof, rfl⟩ | ⟨o, b, hof, hle, rfl, hr⟩⟩
  · have HN : Hid (readF s.data.toList = .error n) := by show _ = _; unfold readF; rw [hof]
    have hn' : ((n : Int) != 0) = true := by simp; omega
    have K01 := K0.trans K1
    have I1 := (K1.block _ (lt_heap I0) (by simp)).trans I0
    obtain ⟨r0, r1, r2, rf0, rf1, rf2, hrb⟩ := dfacts I1
    clear hof hno
    go_wp2
    exact bodyPost_ret (rd_results _ rfl rfl (set3 I1)) rfl (rd_err K01 HN.out)
  · have hdf := hno o hof
    have HE : Hid (readF s.data.toList = .error 4) := by show _ = _; unfold readF; rw [hof]; show readO o = _; unfold readO; rw [hdf]
    have K01 := K0.trans K1
    have I1 := (K1.block _ (lt_heap I0) (by simp)).trans I0
    have hr1 : RR w1 (fun c => c < w1.heap.size) (.obj o) b := hr.frame (fun _ _ => rfl) (fun c hc => hc.2)
    have PJ : PoJ w1 (some ⟨b, 0, none⟩) (some (.obj o)) := Or.inr ⟨b, _, rfl, rfl, hle, hr1⟩
    clear hof hr
    go_wp2_with fail
    refine (rdoc_c w1 b o PJ).mono ?_
    rintro e w2 ⟨K2, hd⟩
    have K02 := K01.trans K2
    have I2 := (K2.block _ (lt_heap I1) (by simp)).trans I1
    obtain ⟨r0, r1, r2, rf0, rf1, rf2, hrb⟩ := dfacts I2
    rw [hdf] at hd
    obtain ⟨ds, du, rfl⟩ := hd
    clear hdf hno
    go_wp2
    exact bodyPost_ret (rd_results _ rfl rfl (set3a I2)) rfl (rd_erra K02 HE.out)
end Go.Proofs.YtocligpfmfmihaaGreatDoor
namespace Go.Proofs.YtocligpfmfmihaaGreatDoor
open Go Go.RowKit Go.Maps Go.WideMaps

/-- A key of its object. -/
def oneF (old : Bool) (till : Int) (id : Bs) (m : List (Bs × J)) : Option Ky := (strF (lookK kKey m)).bind fun k => if old then (momF (lookK kExp m)).map fun t => ⟨id, k, true, t⟩ else some ⟨id, k, false, till⟩
/-- What a closure that makes a key comes to. -/
def OnR (W w : World) (o : Option Ky) (e : Ending) (w' : World) : Prop := Kp (fun _ => False) w w' ∧ match o with
  | some k => e = .returned (.tuple #[.agg #[.string ⟨k.id.toArray⟩, .string ⟨k.key.toArray⟩, .bool k.old, .int .i64 k.till], .nilIface])
  | none => ∃ a b c d ev, e = .returned (.tuple #[.agg #[.string a, .string b, .bool c, .int .i64 d], ev]) ∧ Ech W w' ev
theorem kfacts {w : World} {q : Nat} {a b c d : Value} {T : TypeId} (h : w.heap[q]? = some (.cells #[a, b, c, d] T)) : w.cell? ⟨q, 0, none⟩ = some a ∧ w.cell? ⟨q, 1, none⟩ = some b ∧ w.cell? ⟨q, 2, none⟩ = some c ∧ w.cell? ⟨q, 3, none⟩ = some d ∧
    w.frozen? ⟨q, 0, none⟩ = false ∧ w.frozen? ⟨q, 1, none⟩ = false ∧ w.frozen? ⟨q, 2, none⟩ = false ∧ w.frozen? ⟨q, 3, none⟩ = false ∧ q < w.heap.size := by
  refine ⟨?_, ?_, ?_, ?_, ?_, ?_, ?_, ?_, lt_heap h⟩ <;> simp [World.cell?, World.frozen?, h]
theorem set4 {w : World} {q : Nat} {x y z u a b c d : Value} {T : TypeId} (h : w.heap[q]? = some (.cells #[x, y, z, u] T)) : ((((w.setCell ⟨q, 0, none⟩ a).setCell ⟨q, 1, none⟩ b).setCell ⟨q, 2, none⟩ c).setCell ⟨q, 3, none⟩ d).heap[q]? = some (.cells #[a, b, c, d] T) := by
  simp [World.setCell, Array.getElem?_modify, h]
theorem kp4 {w w6 : World} {a b c d : Value} (h : Kp (fun _ => False) w w6) : Kp (fun _ => False) w ((((w6.setCell ⟨w.heap.size, 0, none⟩ a).setCell ⟨w.heap.size, 1, none⟩ b).setCell ⟨w.heap.size, 2, none⟩ c).setCell ⟨w.heap.size, 3, none⟩ d) :=
  Kp.setCell (p := ⟨w.heap.size, 3, none⟩) (kp3 h) (fun q => absurd q (Nat.lt_irrefl _)) _
theorem k1_results {w : World} {rb : Nat} {a b c d ev : Value} (tmps : Array Value) (h2 : tmps[5]?.getD undef = .pointer (some ⟨rb, 0, none⟩)) (h3 : tmps[6]?.getD undef = ev) (hb : w.heap[rb]? = some (.cells #[a, b, c, d] 35)) :
    (results Tryz.f176 tmps).run Tryz.prog w = .ok (.tuple #[.agg #[a, b, c, d], ev]) w := by
  obtain ⟨c0, c1, c2, c3, _⟩ := kfacts hb
  simp [results, Tryz.results176, go_sem, h2, h3, c0, c1, c2, c3]
theorem k2_results {w : World} {rb : Nat} {a b c d ev : Value} (tmps : Array Value) (h2 : tmps[4]?.getD undef = .pointer (some ⟨rb, 0, none⟩)) (h3 : tmps[5]?.getD undef = ev) (hb : w.heap[rb]? = some (.cells #[a, b, c, d] 35)) :
    (results Tryz.f177 tmps).run Tryz.prog w = .ok (.tuple #[.agg #[a, b, c, d], ev]) w := by
  obtain ⟨c0, c1, c2, c3, _⟩ := kfacts hb
  simp [results, Tryz.results177, go_sem, h2, h3, c0, c1, c2, c3]
theorem Ech.old {W w w' : World} {ev : Value} (h : Ech W w ev) (hk : ∀ (k : Nat) (c : Array Value), w.heap[k]? = some (.cells c 252) → w'.heap[k]? = w.heap[k]?) : Ech W w' ev := by
  induction h with
  | base a h => exact .base a h
  | mem b s ev h _ ih => exact .mem b s ev ((hk b _ h).trans h) ih
theorem ech4 {W w : World} {q : Nat} {ev x y z u a b c d : Value} {T : TypeId} (h : Ech W w ev) (hq : w.heap[q]? = some (.cells #[x, y, z, u] T)) (hT : T ≠ 252) : Ech W ((((w.setCell ⟨q, 0, none⟩ a).setCell ⟨q, 1, none⟩ b).setCell ⟨q, 2, none⟩ c).setCell ⟨q, 3, none⟩ d) ev := by
  refine h.old ?_
  intro k c' hk
  have : k ≠ q := by
    rintro rfl
    rw [hq] at hk
    injection hk with hk
    injection hk with _ h2 _
    exact hT h2
  rw [heap_set_other (by exact this), heap_set_other (by exact this), heap_set_other (by exact this), heap_set_other (by exact this)]
theorem on_no {W w w6 : World} {o : Option Ky} {a b : ByteArray} {c : Bool} {d : Int} {ev x y z u : Value} (h : Kp (fun _ => False) w w6) (hq : w6.heap[w.heap.size]? = some (.cells #[x, y, z, u] 35)) (he : Ech W w6 ev) (ho : o = none) :
    OnR W w o (.returned (.tuple #[.agg #[.string a, .string b, .bool c, .int .i64 d], ev])) ((((w6.setCell ⟨w.heap.size, 0, none⟩ (.string a)).setCell ⟨w.heap.size, 1, none⟩ (.string b)).setCell ⟨w.heap.size, 2, none⟩ (.bool c)).setCell ⟨w.heap.size, 3, none⟩ (.int .i64 d)) := by
  subst ho
  exact ⟨kp4 h, _, _, _, _, _, rfl, ech4 he hq (by decide)⟩
theorem on_yes {W w w6 : World} {o : Option Ky} {k : Ky} (h : Kp (fun _ => False) w w6) (ho : o = some k) :
    OnR W w o (.returned (.tuple #[.agg #[.string ⟨k.id.toArray⟩, .string ⟨k.key.toArray⟩, .bool k.old, .int .i64 k.till], .nilIface])) ((((w6.setCell ⟨w.heap.size, 0, none⟩ (.string ⟨k.id.toArray⟩)).setCell ⟨w.heap.size, 1, none⟩ (.string ⟨k.key.toArray⟩)).setCell ⟨w.heap.size, 2, none⟩ (.bool k.old)).setCell ⟨w.heap.size, 3, none⟩ (.int .i64 k.till)) := by
  subst ho
  exact ⟨kp4 h, rfl⟩
set_option maxRecDepth 20000 in
theorem inUse1_c (W : World) (hN : NG2 W) (w : World) (hW : Below W.heap.size W w) (m : List (Bs × J)) (b ub : Nat) (id : Bs) (till : Int) (ho : Oz w m b) (hu : w.heap[ub]? = some (.cells #[.int .i64 till] 2)) :
    Calls Tryz.prog 176 #[.string ⟨id.toArray⟩, .map (some b), .pointer (some ⟨ub, 0, none⟩)] w fun e w' => OnR W w (oneF false till id m) e w' := by
  have K0 : Kp (fun _ => False) w (w.alloc (.cells #[.string ⟨#[]⟩, .string ⟨#[]⟩, .bool false, .int .i64 0] 35)) := (Kp.refl _ _).alloc _
  have I0 := heap_alloc_new w (.cells #[.string ⟨#[]⟩, .string ⟨#[]⟩, .bool false, .int .i64 0] 35)
  have HX := hide (textUnder_c W hN _ (below_kp hW K0) m b kKey (by decide) (ho.up K0))
  have hof : oneF false till id m = (strF (lookK kKey m)).map fun k => ⟨id, k, false, till⟩ := by
    unfold oneF
    cases strF (lookK kKey m) <;> rfl
  clear ho
  go_enter Tryz.func176, Tryz.ntmps176
  go_wp2_with fail
  generalize (w.alloc (.cells #[.string ⟨#[]⟩, .string ⟨#[]⟩, .bool false, .int .i64 0] 35)) = w0 at *
  refine HX.out.mono ?_
  rintro e w1 ⟨K1, h1⟩
  obtain ⟨cu, _⟩ := one_cells ((K0.trans K1).heap hu)
  have I1 := K1.heap I0
  obtain ⟨r0, r1, r2, r3, rf0, rf1, rf2, rf3, hrb⟩ := kfacts I1
  have HK := hide (K0.trans K1)
  clear HX K1 hu
  cases hs : strF (lookK kKey m) with
  | none =>
    rw [hs] at h1 hof
    obtain ⟨ev, rfl, he⟩ := h1
    obtain ⟨tt, u, rfl⟩ := he.iface
    have HE2 := hide (And.intro he hof)
    clear he hs hof
    go_wp2
    exact bodyPost_ret (k1_results _ rfl rfl (set4 I1)) rfl (on_no HK.out I1 HE2.out.1 HE2.out.2)
  | some s =>
    rw [hs] at h1 hof
    replace h1 : e = .returned (.tuple #[.string ⟨s.toArray⟩, .nilIface]) := h1
    subst h1
    have HE2 := hide hof
    clear hs hof
    go_wp2
    exact bodyPost_ret (k1_results _ rfl rfl (set4 I1)) rfl (on_yes (k := ⟨id, s, false, till⟩) HK.out HE2.out)
set_option maxRecDepth 20000 in
theorem old1_c (W : World) (hN : NG2 W) (w : World) (hW : Below W.heap.size W w) (m : List (Bs × J)) (b : Nat) (id : Bs) (till : Int) (ho : Oz w m b) :
    Calls Tryz.prog 177 #[.string ⟨id.toArray⟩, .map (some b)] w fun e w' => OnR W w (oneF true till id m) e w' := by
  have K0 : Kp (fun _ => False) w (w.alloc (.cells #[.string ⟨#[]⟩, .string ⟨#[]⟩, .bool false, .int .i64 0] 35)) := (Kp.refl _ _).alloc _
  have I0 := heap_alloc_new w (.cells #[.string ⟨#[]⟩, .string ⟨#[]⟩, .bool false, .int .i64 0] 35)
  have HX := hide (textUnder_c W hN _ (below_kp hW K0) m b kKey (by decide) (ho.up K0))
  have hof : oneF true till id m = (strF (lookK kKey m)).bind fun k => (momF (lookK kExp m)).map fun t => ⟨id, k, true, t⟩ := rfl
  go_enter Tryz.func177, Tryz.ntmps177
  go_wp2_with fail
  generalize (w.alloc (.cells #[.string ⟨#[]⟩, .string ⟨#[]⟩, .bool false, .int .i64 0] 35)) = w0 at *
  refine HX.out.mono ?_
  rintro e w1 ⟨K1, h1⟩
  have HY := hide (momentUnder_c W hN w1 (below_kp hW (K0.trans K1)) m b kExp (by decide) (ho.up (K0.trans K1)))
  have I1 := K1.heap I0
  obtain ⟨r0, r1, r2, r3, rf0, rf1, rf2, rf3, hrb⟩ := kfacts I1
  have HK := hide (K0.trans K1)
  clear HX K1
  cases hs : strF (lookK kKey m) with
  | none =>
    rw [hs] at h1 hof
    obtain ⟨ev, rfl, he⟩ := h1
    obtain ⟨tt, u, rfl⟩ := he.iface
    have HE2 := hide (And.intro he hof)
    clear he hs hof
    go_wp2
    exact bodyPost_ret (k2_results _ rfl rfl (set4 I1)) rfl (on_no HK.out I1 HE2.out.1 HE2.out.2)
  | some s =>
    rw [hs] at h1 hof
    replace h1 : e = .returned (.tuple #[.string ⟨s.toArray⟩, .nilIface]) := h1
    subst h1
    clear hs
    go_wp2_with fail
    refine HY.out.mono ?_
    rintro e w2 ⟨K2, h2⟩
    have HK2 := hide (HK.out.trans K2)
    have I2 := K2.heap I1
    clear r0 r1 r2 r3 rf0 rf1 rf2 rf3 hrb
    obtain ⟨r0, r1, r2, r3, rf0, rf1, rf2, rf3, hrb⟩ := kfacts I2
    clear HY K2
    cases hm : momF (lookK kExp m) with
    | none =>
      rw [hm] at h2 hof
      obtain ⟨ev, rfl, he⟩ := h2
      obtain ⟨tt, u, rfl⟩ := he.iface
      have HE2 := hide (And.intro he hof)
      clear he hm hof
      go_wp2
      exact bodyPost_ret (k2_results _ rfl rfl (set4 I2)) rfl (on_no HK2.out I2 HE2.out.1 HE2.out.2)
    | some t =>
      rw [hm] at h2 hof
      replace h2 : e = .returned (.tuple #[.int .i64 t, .nilIface]) := h2
      subst h2
      have HE2 := hide hof
      clear hm hof
      go_wp2
      exact bodyPost_ret (k2_results _ rfl rfl (set4 I2)) rfl (on_yes (k := ⟨id, s, true, t⟩) HK2.out HE2.out)
end Go.Proofs.YtocligpfmfmihaaGreatDoor

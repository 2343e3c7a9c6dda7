import Derived.Test.YtocligpfmfmihaaGreatDoorRea7
import Derived.Test.YtocligpfmfmihaaGreatDoorSgn3G
import Derived.Test.YtocligpfmfmihaaGreatDoorRef27G
namespace Go.Proofs.YtocligpfmfmihaaGreatDoor
open Go Go.RowKit Go.Maps
def sgOk (l : List (Bs × J)) (s : Bs) (k : Ky) : Bool :=
 k.old || match memF k.id (memF s (memF kSig (some (.obj l)))) with | some (.str t) => decide (t = (sealF ⟨k.key.toArray⟩ ⟨(bareF l).toArray⟩).data.toList) | _ => false
def readO (l : List (Bs × J)) : Except Nat (Bs × Int × List Ky) :=
 match docF l with
 | none => .error 4
 | some (s, u, ks) => if ks.all (sgOk l s) then .ok (s, u, ks) else .error 5
def readF (t : Bs) : Except Nat (Bs × Int × List Ky) := match objectF t with | .error n => .error n | .ok l => readO l
def RdR (w : World) (o : Except Nat (Bs × Int × List Ky)) (e : Ending) (w' : World) : Prop :=
 Kp (fun _ => False) w w' ∧ match o with
 | .error n => e = .returned (.tuple #[.agg #[.string ⟨#[]⟩, .int .i64 0, .slice none 0 0], .int .i64 (n : Int)])
 | .ok (s, u, ks) => ∃ v, e = .returned (.tuple #[.agg #[.string ⟨s.toArray⟩, .int .i64 u, v], .int .i64 0]) ∧ w'.ownsRow w.heap.size 35 4 v ks.length (ks.flatMap kyC)
theorem rd_err {w w6 : World} {o : Except Nat (Bs × Int × List Ky)} {n : Nat} (h : Kp (fun _ => False) w w6) (ho : o = .error n) : RdR w o (.returned (.tuple #[.agg #[.string ⟨#[]⟩, .int .i64 0, .slice none 0 0], .int .i64 (n : Int)])) (((w6.setCell ⟨w.heap.size, 0, none⟩ (.string ⟨#[]⟩)).setCell ⟨w.heap.size, 1, none⟩ (.int .i64 0)).setCell ⟨w.heap.size, 2, none⟩ (.slice none 0 0)) := by
 subst ho
 exact ⟨kp3 h, rfl⟩
theorem rd_ok {w w6 : World} {B : Nat} {o : Except Nat (Bs × Int × List Ky)} {s : Bs} {u : Int} {ks : List Ky} {v : Value} (h : Kp (fun _ => False) w w6) (hB : w.heap.size < B) (row : w6.ownsRow B 35 4 v ks.length (ks.flatMap kyC)) (ho : o = .ok (s, u, ks)) :
  RdR w o (.returned (.tuple #[.agg #[.string ⟨s.toArray⟩, .int .i64 u, v], .int .i64 0])) (((w6.setCell ⟨w.heap.size, 0, none⟩ (.string ⟨s.toArray⟩)).setCell ⟨w.heap.size, 1, none⟩ (.int .i64 u)).setCell ⟨w.heap.size, 2, none⟩ v) := by
 subst ho
 refine ⟨kp3 h, v, rfl, ?_⟩
 refine own_base (Nat.le_of_lt hB) (ownsRow_heap row fun k hk => ?_)
 have hk2 := (row.lt k hk).1
 rw [heap_set_other (by show k ≠ w.heap.size; omega), heap_set_other (by show k ≠ w.heap.size; omega), heap_set_other (by show k ≠ w.heap.size; omega)]
theorem rd_erra {w w6 : World} {o : Except Nat (Bs × Int × List Ky)} {n : Nat} {D : Obj} (h : Kp (fun _ => False) w w6) (ho : o = .error n) : RdR w o (.returned (.tuple #[.agg #[.string ⟨#[]⟩, .int .i64 0, .slice none 0 0], .int .i64 (n : Int)])) ((((w6.setCell ⟨w.heap.size, 0, none⟩ (.string ⟨#[]⟩)).setCell ⟨w.heap.size, 1, none⟩ (.int .i64 0)).setCell ⟨w.heap.size, 2, none⟩ (.slice none 0 0)).alloc D) := by
 subst ho
 exact ⟨(kp3 h).alloc _, rfl⟩
theorem set3a {w : World} {q : Nat} {x y z a b c : Value} {T : TypeId} {D : Obj} (h : w.heap[q]? = some (.cells #[x, y, z] T)) : ((((w.setCell ⟨q, 0, none⟩ a).setCell ⟨q, 1, none⟩ b).setCell ⟨q, 2, none⟩ c).alloc D).heap[q]? = some (.cells #[a, b, c] T) := by
 have h3 := set3 (a := a) (b := b) (c := c) h
 rw [Below.heap_alloc _ _ _ (lt_heap h3)]
 exact h3
set_option maxRecDepth 20000 in
set_option maxHeartbeats 4000000 in
theorem rread_no (W : World) (hG : GL W) (s : ByteArray) (w : World) (ho : Below W.heap.size W w) (hno : ∀ o, objectF s.data.toList = .ok o → docF o = none) :
  Calls Tryz.prog 21 #[.string s] w fun e w' => RdR w (readF s.data.toList) e w' := by
 have K0 : Kp (fun _ => False) w (w.alloc (.cells #[.string ⟨#[]⟩, .int .i64 0, .slice none 0 0] 30)) := (Kp.refl _ _).alloc _
 have I0 := heap_alloc_new w (.cells #[.string ⟨#[]⟩, .int .i64 0, .slice none 0 0] 30)
 have hob := robject_c W hG s _ (below_kp ho K0)
 have HOB := hide hob
 clear hob
 go_enter Tryz.func21, Tryz.ntmps21
 go_wp2_with fail
 generalize (w.alloc (.cells #[.string ⟨#[]⟩, .int .i64 0, .slice none 0 0] 30)) = w0 at *
 refine HOB.out.mono ?_
 rintro e w1 ⟨K1, ⟨n, hn, hof, rfl⟩ | ⟨o, b, hof, hle, rfl, hr⟩⟩
 ·have HN : Hid (readF s.data.toList = .error n) := by show _ = _; unfold readF; rw [hof]
  have hn' : ((n : Int) != 0) = true := by simp; omega
  have K01 := K0.trans K1
  have I1 := (K1.block _ (lt_heap I0) (by simp)).trans I0
  obtain ⟨r0, r1, r2, rf0, rf1, rf2, hrb⟩ := dfacts I1
  clear hof hno
  go_wp2
  exact bodyPost_ret (rd_results _ rfl rfl (set3 I1)) rfl (rd_err K01 HN.out)
 ·have hdf := hno o hof
  have HE : Hid (readF s.data.toList = .error 4) := by show _ = _; unfold readF; rw [hof]; show readO o = _; unfold readO; rw [hdf]
  have K01 := K0.trans K1
  have I1 := (K1.block _ (lt_heap I0) (by simp)).trans I0
  have hr1 : RR w1 (fun c => c < w1.heap.size) (.obj o) b := hr.frame (fun _ _ => rfl) (fun c hc => hc.2)
  have PJ : PoJ w1 (some ⟨b, 0, none⟩) (some (.obj o)) := Or.inr ⟨b, _, rfl, rfl, hle, hr1⟩
  clear hof hr
  go_wp2_with fail
  refine (rdoc_c w1 b o PJ).mono ?_
  rintro e w2 ⟨K2, hd⟩
  have K02 := K01.trans K2
  have I2 := (K2.block _ (lt_heap I1) (by simp)).trans I1
  obtain ⟨r0, r1, r2, rf0, rf1, rf2, hrb⟩ := dfacts I2
  rw [hdf] at hd
  obtain ⟨ds, du, rfl⟩ := hd
  clear hdf hno
  go_wp2
  exact bodyPost_ret (rd_results _ rfl rfl (set3a I2)) rfl (rd_erra K02 HE.out)
end Go.Proofs.YtocligpfmfmihaaGreatDoor
namespace Go.Proofs.YtocligpfmfmihaaGreatDoor
open Go Go.RowKit Go.Maps
theorem mem_obj_len {l : List (Bs × J)} {a : Bs} {j : J} (h : (a, j) ∈ l) : (cJ j).length ≤ (cJ (.obj l)).length := by
 have := (joinC_le (l.map cMem) 0).2 (cMem (a, j)) (List.mem_map.2 ⟨_, h, rfl⟩)
 rw [cJ_obj]
 simp only [cMem, List.length_append, List.length_cons, List.length_nil] at this ⊢
 omega
theorem keyF_len {old : Bool} {till : Int} {id : Bs} {j : J} {k : Ky} (h : keyF old till id j = some k) : k.key.length ≤ (cJ j).length := by
 rw [keyF_parts] at h
 split at h
 ·simp only [Option.bind_eq_some_iff] at h
  obtain ⟨t, h1, h2⟩ := h
  have hk : k.key = t := by
   split at h2
   ·simp only [Option.map_eq_some_iff] at h2
    obtain ⟨_, _, rfl⟩ := h2
    rfl
   ·simp only [Option.some.injEq] at h2
    subst h2
    rfl
  cases j with
  | obj m =>
   simp only [memF] at h1
   unfold strF at h1
   split at h1
   ·rename_i q hq
    injection h1 with h1
    subst h1
    have h3 := child_len hq
    have h4 := cStr_geq q
    rw [cJ] at h3
    rw [hk]
    omega
   ·cases h1
  | _ => cases h1
 ·cases h
theorem keysF_len {old : Bool} {till : Int} : ∀ {l : List (Bs × J)} {r : List Ky}, keysF old till l = some r → ∀ k ∈ r, k.key.length ≤ (cJ (.obj l)).length
 | [], r, h, k, hk => by
  simp only [keysF, Option.some.injEq] at h
  subst h
  cases hk
 | (id, j) :: l, r, h, k, hk => by
  simp only [keysF, Option.bind_eq_some_iff, Option.map_eq_some_iff] at h
  obtain ⟨q, hq, r', hr, rfl⟩ := h
  rcases List.mem_cons.1 hk with rfl | hk
  ·exact Nat.le_trans (keyF_len hq) (mem_obj_len (List.mem_cons_self))
  ·have h1 := keysF_len hr k hk
   refine Nat.le_trans h1 ?_
   have h2 := joinC_len cMem l
   have h3 := joinC_len cMem ((id, j) :: l)
   rw [if_neg (by simp)] at h3
   have h4 : sumM cMem ((id, j) :: l) = (cMem (id, j)).length + 1 + sumM cMem l := by simp [sumM]
   rw [cJ_obj, cJ_obj]
   simp only [List.length_cons, List.length_append, List.length_nil]
   split at h2 <;> omega
theorem docF_len {l : List (Bs × J)} {s : Bs} {u : Int} {ks : List Ky} (h : docF l = some (s, u, ks)) : ∀ k ∈ ks, k.key.length ≤ (cJ (.obj l)).length := by
 unfold docF at h
 simp only [Option.bind_eq_some_iff] at h
 obtain ⟨_, _, _, _, h⟩ := h
 split at h
 ·rename_i m hm
  split at h
  ·simp only [Option.bind_eq_some_iff, Option.map_eq_some_iff, Prod.mk.injEq] at h
   obtain ⟨a, ha, b, hb, q, hq, rfl, rfl, rfl⟩ := h
   intro k hk
   have hkab : k ∈ a ++ b := by
    unfold joinF at hq
    split at hq
    ·injection hq with hq
     subst hq
     obtain ⟨p, hp, rfl⟩ := List.mem_map.1 hk
     obtain ⟨k2, hk2, rfl⟩ := List.mem_map.1 (mem_ofL hp)
     exact hk2
    ·cases hq
   rcases List.mem_append.1 hkab with hka | hkb
   ·exact Nat.le_trans (keysF_len ha k hka) (child_len hm)
   ·unfold oldF at hb
    split at hb
    ·injection hb with hb
     subst hb
     cases hkb
    ·rename_i m2 hm2
     exact Nat.le_trans (keysF_len hb k hkb) (child_len hm2)
    ·cases hb
  ·cases h
 ·cases h
end Go.Proofs.YtocligpfmfmihaaGreatDoor
namespace Go.Proofs.YtocligpfmfmihaaGreatDoor
structure Ldg where
 keys : Bs → Bs → Option (Bs × Int)
 docs : Bs → Option Bs
 asked : Bs → Option Int
def Ldg.zero : Ldg := ⟨fun _ _ => none, fun _ => none, fun _ => none⟩
def capF (now : Int) : Int := if 9223372036854774807 < now then 9223372036854775807 else now + 1000
def tillF (now : Int) (k : Ky) : Int := if k.old then k.till else min k.till (capF now)
def updK (sn : Bs) (now : Int) (st : Ldg) (k : Ky) : Ldg :=
 { st with keys := fun s i => if s = sn ∧ i = k.id then some (k.key, match st.keys sn k.id with | some p => max (tillF now k) p.2 | none => tillF now k) else st.keys s i }
def cnfK (st : Ldg) (sn : Bs) (k : Ky) : Bool := match st.keys sn k.id with | some p => decide (p.1 ≠ k.key) | none => false
def confF (st : Ldg) (sn : Bs) (ks : List Ky) : Bool := ks.any (cnfK st sn)
def keptS (st : Ldg) (sn text : Bs) : Ldg := { st with docs := fun s => if s = sn then some text else st.docs s }
def takeS (st : Ldg) (sn : Bs) (ks : List Ky) (text : Bs) (now : Int) : Nat × Ldg := if confF st sn ks then (6, st) else (0, keptS (ks.foldl (updK sn now) st) sn text)
def learnS (st : Ldg) (text : Bs) (now : Int) : Nat × Ldg := match readF text with | .error n => (n, st) | .ok (sn, _, ks) => takeS st sn ks text now
def mayS (st : Ldg) (s i : Bs) (at' : Int) : Option Bs := (st.keys s i).bind fun p => if p.2 < at' then none else some p.1
def answerS (st : Ldg) (name id key s : Bs) : Bs × Nat := match st.docs s with | none => ([], 8) | some t => signedF t name id (sealF ⟨key.toArray⟩ ⟨(messageF t).1.toArray⟩).data.toList
theorem updK_docs (sn : Bs) (now : Int) (st : Ldg) (k : Ky) : (updK sn now st k).docs = st.docs := rfl
theorem updK_asked (sn : Bs) (now : Int) (st : Ldg) (k : Ky) : (updK sn now st k).asked = st.asked := rfl
theorem updK_other (sn : Bs) (now : Int) (st : Ldg) (k : Ky) (s i : Bs) (h : ¬ (s = sn ∧ i = k.id)) : (updK sn now st k).keys s i = st.keys s i := if_neg h
theorem fold_docs (sn : Bs) (now : Int) (ks : List Ky) : ∀ st : Ldg, (ks.foldl (updK sn now) st).docs = st.docs := by
 induction ks with
 | nil => intro st; rfl
 | cons k ks ih => intro st; rw [List.foldl_cons, ih, updK_docs]
theorem fold_asked (sn : Bs) (now : Int) (ks : List Ky) : ∀ st : Ldg, (ks.foldl (updK sn now) st).asked = st.asked := by
 induction ks with
 | nil => intro st; rfl
 | cons k ks ih => intro st; rw [List.foldl_cons, ih, updK_asked]
theorem fold_other (sn : Bs) (now : Int) (ks : List Ky) (s : Bs) (h : s ≠ sn) : ∀ (st : Ldg) (i : Bs), (ks.foldl (updK sn now) st).keys s i = st.keys s i := by
 induction ks with
 | nil => intro st i; rfl
 | cons k ks ih => intro st i; rw [List.foldl_cons, ih, updK_other _ _ _ _ _ _ (fun e => h e.1)]
theorem fold_miss (sn : Bs) (now : Int) (ks : List Ky) (i : Bs) (h : ∀ k ∈ ks, i ≠ k.id) : ∀ (st : Ldg) (s : Bs), (ks.foldl (updK sn now) st).keys s i = st.keys s i := by
 induction ks with
 | nil => intro st s; rfl
 | cons k ks ih =>
  intro st s
  rw [List.foldl_cons, ih (fun k' hk' => h k' (List.mem_cons_of_mem _ hk')), updK_other _ _ _ _ _ _ (fun e => h k List.mem_cons_self e.2)]
theorem take_succ {α : Type} {l : List α} {i : Nat} {x : α} (h : l[i]? = some x) : l.take (i + 1) = l.take i ++ [x] := by
 have hi : i < l.length := by
  rcases Nat.lt_or_ge i l.length with h' | h'
  ·exact h'
  ·rw [List.getElem?_eq_none h'] at h; cases h
 rw [List.take_succ_eq_append_getElem hi]
 rw [List.getElem?_eq_getElem hi] at h
 injection h with h
 rw [h]
theorem fold_take {sn : Bs} {now : Int} {ks : List Ky} {st : Ldg} {i : Nat} {k : Ky} (h : ks[i]? = some k) : (ks.take (i + 1)).foldl (updK sn now) st = updK sn now ((ks.take i).foldl (updK sn now) st) k := by
 rw [take_succ h, List.foldl_append]
 rfl
theorem fold_noconf {sn : Bs} {now : Int} {ks : List Ky} {st : Ldg} (hn : (ks.map (·.id)).Nodup) (hc : confF st sn ks = false) {i : Nat} {k : Ky} (h : ks[i]? = some k) : ((ks.take i).foldl (updK sn now) st).keys sn k.id = st.keys sn k.id ∧ cnfK st sn k = false := by
 refine ⟨fold_miss sn now _ _ ?_ st sn, ?_⟩
 ·intro k' hk' e
  obtain ⟨j, hj, he⟩ := List.mem_iff_getElem.1 hk'
  have hji : j < i := by
   have : (ks.take i).length ≤ i := by rw [List.length_take]; omega
   omega
  have hi : i < ks.length := by
   rcases Nat.lt_or_ge i ks.length with h' | h'
   ·exact h'
   ·rw [List.getElem?_eq_none h'] at h; cases h
  have h1 := List.pairwise_iff_getElem.1 hn j i (by simp; omega) (by simpa using hi) hji
  simp only [List.getElem_map] at h1
  rw [List.getElem_take] at he
  rw [List.getElem?_eq_getElem hi] at h
  injection h with h
  rw [he, h] at h1
  exact h1 e.symm
 ·unfold confF at hc
  rw [List.any_eq_false] at hc
  have := hc k (List.mem_of_getElem? h)
  simpa using this
end Go.Proofs.YtocligpfmfmihaaGreatDoor
namespace Go.Proofs.YtocligpfmfmihaaGreatDoor
structure Kn where
 srv : Bs
 id : Bs
 key : Bs
 till : Int
def ixOf {α : Type} (p : α → Bool) (l : List α) : Option Nat := l.findIdx? p
theorem ix_some {α : Type} {p : α → Bool} {l : List α} {n : Nat} (h : ixOf p l = some n) : ∃ x, l[n]? = some x ∧ p x = true ∧ l.find? p = some x := by
 induction l generalizing n with
 | nil => simp [ixOf] at h
 | cons a l ih =>
  unfold ixOf at h ih
  rw [List.findIdx?_cons] at h
  by_cases ha : p a = true
  ·rw [if_pos ha] at h
   injection h with h
   subst h
   exact ⟨a, rfl, ha, by simp [ha]⟩
  ·rw [if_neg ha] at h
   obtain ⟨m, hm, rfl⟩ := Option.map_eq_some_iff.1 h
   obtain ⟨x, h1, h2, h3⟩ := ih hm
   exact ⟨x, by simpa using h1, h2, by simp [ha, h3]⟩
theorem ix_none {α : Type} {p : α → Bool} {l : List α} (h : ixOf p l = none) : l.find? p = none := by
 unfold ixOf at h
 rw [List.findIdx?_eq_none_iff] at h
 rw [List.find?_eq_none]
 intro x hx
 simp [h x hx]
theorem ix_hit {α : Type} {p : α → Bool} {l : List α} {n : Nat} {x : α} (hx : l[n]? = some x) (h1 : p x = true) (hb : ∀ (j : Nat) (q : α), j < n → l[j]? = some q → p q = false) : ixOf p l = some n := by
 unfold ixOf
 have hn : n < l.length := by
  rcases Nat.lt_or_ge n l.length with h' | h'
  ·exact h'
  ·rw [List.getElem?_eq_none h'] at hx; cases hx
 rw [List.getElem?_eq_getElem hn] at hx
 injection hx with hx
 refine List.findIdx?_eq_some_iff_getElem.2 ⟨hn, by rw [hx]; exact h1, ?_⟩
 intro j hj
 have := hb j _ hj (List.getElem?_eq_getElem (by omega))
 simpa using this
theorem ix_miss {α : Type} {p : α → Bool} {l : List α} (hb : ∀ (j : Nat) (q : α), l[j]? = some q → p q = false) : ixOf p l = none := by
 unfold ixOf
 rw [List.findIdx?_eq_none_iff]
 intro x hx
 obtain ⟨j, hj⟩ := List.mem_iff_getElem?.1 hx
 exact hb j x hj
theorem find_app {α : Type} (p : α → Bool) (l : List α) (x : α) : (l ++ [x]).find? p = (l.find? p).or (if p x then some x else none) := by
 rw [List.find?_append]
 congr 1
 by_cases h : p x = true <;> simp [h]
theorem find_set {α : Type} (p q : α → Bool) (l : List α) (n : Nat) (x y : α) (hq : ixOf q l = some n) (hx : l[n]? = some x) (hpq : ∀ z, q z = true → p z = p x) (hy : p y = p x) : (l.set n y).find? p = if p x then (if (l.find? p).isSome then some (match l.find? p with | some z => if q z then y else z | none => y) else none) else l.find? p := by
 induction l generalizing n with
 | nil => cases hx
 | cons a l ih =>
  unfold ixOf at hq
  rw [List.findIdx?_cons] at hq
  by_cases ha : q a = true
  ·rw [if_pos ha] at hq
   injection hq with hq
   subst hq
   have hax : a = x := by simpa using hx
   subst hax
   rw [List.set_cons_zero]
   by_cases hpa : p a = true
   ·simp [hpa, hy, ha]
   ·simp [hpa, hy]
  ·rw [if_neg ha] at hq
   obtain ⟨m, hm, rfl⟩ := Option.map_eq_some_iff.1 hq
   rw [List.set_cons_succ]
   have h := ih m hm (by simpa using hx)
   by_cases hpa : p a = true
   ·simp only [List.find?_cons, hpa, Option.isSome_some, if_true, ha]
    by_cases hpx : p x = true <;> simp [hpx]
   ·simp only [List.find?_cons, hpa]
    exact h
def isK (s i : Bs) (k : Kn) : Bool := decide (k.srv = s) && decide (k.id = i)
theorem isK_iff {s i : Bs} {k : Kn} : isK s i k = true ↔ k.srv = s ∧ k.id = i := by simp [isK]
def knAt (L : List Kn) (s i : Bs) : Option (Bs × Int) := (L.find? (isK s i)).map fun k => (k.key, k.till)
def isS {α : Type} (s : Bs) (p : Bs × α) : Bool := decide (p.1 = s)
def asc {α : Type} (D : List (Bs × α)) (s : Bs) : Option α := (D.find? (isS s)).map (·.2)
theorem knAt_app {L : List Kn} {s i : Bs} (h : ixOf (isK s i) L = none) (key : Bs) (t : Int) (s' i' : Bs) : knAt (L ++ [⟨s, i, key, t⟩]) s' i' = if s' = s ∧ i' = i then some (key, t) else knAt L s' i' := by
 unfold knAt
 rw [find_app]
 by_cases he : s' = s ∧ i' = i
 ·obtain ⟨rfl, rfl⟩ := he
  rw [ix_none h]
  simp [isK]
 ·rw [if_neg he]
  have : isK s' i' ⟨s, i, key, t⟩ = false := by
   simp only [isK, Bool.and_eq_false_iff, decide_eq_false_iff_not]
   by_cases h1 : s = s'
   ·exact Or.inr (fun h2 => he ⟨h1.symm, h2.symm⟩)
   ·exact Or.inl h1
  rw [this]
  simp
theorem knAt_set {L : List Kn} {s i : Bs} {n : Nat} {k : Kn} (h : ixOf (isK s i) L = some n) (hk : L[n]? = some k) (t : Int) (s' i' : Bs) : knAt (L.set n { k with till := t }) s' i' = if s' = s ∧ i' = i then some (k.key, t) else knAt L s' i' := by
 obtain ⟨x, h1, h2, h3⟩ := ix_some h
 rw [hk] at h1
 injection h1 with h1
 subst h1
 have hki := isK_iff.1 h2
 unfold knAt
 rw [find_set (isK s' i') (isK s i) L n k { k with till := t } h hk (by
  intro z hz
  have hz' := isK_iff.1 hz
  unfold isK
  rw [hz'.1, hz'.2, hki.1, hki.2]) rfl]
 by_cases he : s' = s ∧ i' = i
 ·obtain ⟨rfl, rfl⟩ := he
  rw [if_pos h2, h3]
  simp [h2]
 ·rw [if_neg he]
  have : isK s' i' k = false := by
   simp only [isK, Bool.and_eq_false_iff, decide_eq_false_iff_not, hki.1, hki.2]
   by_cases h1 : s = s'
   ·exact Or.inr (fun h2 => he ⟨h1.symm, h2.symm⟩)
   ·exact Or.inl h1
  rw [this]
  simp
theorem asc_app {α : Type} {D : List (Bs × α)} {s : Bs} (h : ixOf (isS s) D = none) (x : α) (s' : Bs) : asc (D ++ [(s, x)]) s' = if s' = s then some x else asc D s' := by
 unfold asc
 rw [find_app]
 by_cases he : s' = s
 ·subst he
  rw [ix_none h]
  simp [isS]
 ·rw [if_neg he]
  have : isS s' (s, x) = false := by simp [isS, Ne.symm he]
  rw [this]
  simp
theorem asc_set {α : Type} {D : List (Bs × α)} {s : Bs} {n : Nat} {p : Bs × α} (h : ixOf (isS s) D = some n) (hk : D[n]? = some p) (x : α) (s' : Bs) : asc (D.set n (p.1, x)) s' = if s' = s then some x else asc D s' := by
 obtain ⟨q, h1, h2, h3⟩ := ix_some h
 rw [hk] at h1
 injection h1 with h1
 subst h1
 have hki : p.1 = s := by simpa [isS] using h2
 unfold asc
 rw [find_set (isS s') (isS s) D n p (p.1, x) h hk (by
  intro z hz
  have hz' : z.1 = s := by simpa [isS] using hz
  unfold isS
  rw [hz', hki]) rfl]
 by_cases he : s' = s
 ·subst he
  rw [if_pos h2, h3]
  simp [h2]
 ·rw [if_neg he]
  have : isS s' p = false := by simp [isS, hki, Ne.symm he]
  rw [this]
  simp
end Go.Proofs.YtocligpfmfmihaaGreatDoor
namespace Go.Proofs.YtocligpfmfmihaaGreatDoor
open Go Go.RowKit Go.Maps
theorem own_max4 {w : World} {B : Nat} {e : TypeId} {v : Value} {n : Nat} {xs : List Value} (h : w.ownsRow B e 4 v n xs) : n ≤ 9223372036854775807 := by
 obtain ⟨_, ⟨_, rfl⟩ | ⟨g, cap, cur, _, _, _, h3, h4, _⟩⟩ := h
 ·omega
 ·unfold maxLen at h4; omega
set_option maxRecDepth 20000 in
set_option maxHeartbeats 4000000 in
theorem rread_yes (W : World) (hG : GL W) (s : ByteArray) (w : World) (ho : Below W.heap.size W w) (o : List (Bs × J)) (hof : objectF s.data.toList = .ok o) (sn : Bs) (u : Int) (ks : List Ky) (hdf : docF o = some (sn, u, ks)) :
  Calls Tryz.prog 21 #[.string s] w fun e w' => RdR w (readF s.data.toList) e w' := by
 have HN : Hid (readF s.data.toList = if ks.all (sgOk o sn) then .ok (sn, u, ks) else .error 5) := by show _ = _; unfold readF; rw [hof]; show readO o = _; unfold readO; rw [hdf]
 have hkl := docF_len hdf
 have K0 : Kp (fun _ => False) w (w.alloc (.cells #[.string ⟨#[]⟩, .int .i64 0, .slice none 0 0] 30)) := (Kp.refl _ _).alloc _
 have I0 := heap_alloc_new w (.cells #[.string ⟨#[]⟩, .int .i64 0, .slice none 0 0] 30)
 have hob := robject_c W hG s _ (below_kp ho K0)
 have HOB := hide (And.intro hob (And.intro hof hdf))
 clear hob hof hdf
 go_enter Tryz.func21, Tryz.ntmps21
 go_wp2_with fail
 generalize (w.alloc (.cells #[.string ⟨#[]⟩, .int .i64 0, .slice none 0 0] 30)) = w0 at *
 refine HOB.out.1.mono ?_
 rintro e w1 ⟨K1, ⟨n, hn, hof, rfl⟩ | ⟨o', b, hof, hle, rfl, hr⟩⟩
 ·rw [HOB.out.2.1] at hof; cases hof
 have hoo : o' = o := by
  rw [HOB.out.2.1] at hof
  injection hof with hof
  exact hof.symm
 subst hoo
 have K01 := K0.trans K1
 have I1 := (K1.block _ (lt_heap I0) (by simp)).trans I0
 have hr1 : RR w1 (fun c => c < w1.heap.size) (.obj o') b := hr.frame (fun _ _ => rfl) (fun c hc => hc.2)
 have PJ : PoJ w1 (some ⟨b, 0, none⟩) (some (.obj o')) := Or.inr ⟨b, _, rfl, rfl, hle, hr1⟩
 clear hof hr
 go_wp2_with fail
 refine (rdoc_c w1 b o' PJ).mono ?_
 rintro e w2 ⟨K2, hd⟩
 have K02 := K01.trans K2
 have I2 := (K2.block _ (lt_heap I1) (by simp)).trans I1
 rw [HOB.out.2.2] at hd
 obtain ⟨v, rfl, row⟩ := hd
 obtain ⟨va, vc, rfl, hva⟩ := own_slice4 row
 have K3 : Kp (fun _ => False) w2 (w2.alloc (.cells #[.string ⟨sn.toArray⟩, .int .i64 u, .slice va ks.length vc] 30)) := (Kp.refl _ _).alloc _
 have I3 := heap_alloc_new w2 (.cells #[.string ⟨sn.toArray⟩, .int .i64 u, .slice va ks.length vc] 30)
 have PJ3 := (PJ.kp K2).kp K3
 have hr3 : RR (w2.alloc (.cells #[.string ⟨sn.toArray⟩, .int .i64 u, .slice va ks.length vc] 30)) (fun c => c < (w2.alloc (.cells #[.string ⟨sn.toArray⟩, .int .i64 u, .slice va ks.length vc] 30)).heap.size) (.obj o') b :=
  hr1.frame (fun k hk => ((K2.trans K3).block k hk (by simp))) (fun k hk => Nat.lt_of_lt_of_le hk (K2.trans K3).size)
 have HB := hide (rbareJ hr3 (fun k hk => hk) (by omega) (Kp.refl _ _))
 have I23 := (K3.block _ (lt_heap I2) (by simp)).trans I2
 have row3 := ownsRow_kp row K3 (by simp)
 have K03 := K02.trans K3
 have hw1 : w.heap.size < w1.heap.size := lt_heap I1
 clear hr3 hr1 PJ row
 go_wp2_with fail
 generalize (w2.alloc (.cells #[.string ⟨sn.toArray⟩, .int .i64 u, .slice va ks.length vc] 30)) = w3 at *
 refine HB.out.mono ?_
 rintro e w4 ⟨rfl, K4⟩
 have I24 := (K4.block _ (lt_heap I23) (by simp)).trans I23
 have Id4 := (K4.block _ (lt_heap I3) (by simp)).trans I3
 have row4 := ownsRow_kp row3 K4 (by simp)
 have K04 := K03.trans K4
 have PJ4 := PJ3.kp K4
 obtain ⟨r0, r1, r2, rf0, rf1, rf2, hrb⟩ := dfacts I24
 obtain ⟨d0, d1, d2, df0, df1, df2, hdb⟩ := dfacts Id4
 clear HB row3 PJ3 I3 I23
 go_wp2_with fail
 refine (getJ w4 _ _ PJ4 kSig).mono ?_
 rintro e w5 ⟨pa, rfl, rfl, PA⟩
 go_wp2_with fail
 refine (getJ w5 _ _ PA sn).mono ?_
 rintro e w6 ⟨pm, rfl, rfl, PM⟩
 have hgv : ∀ i, i < ks.length → ∃ g, va = some ⟨g, 0, none⟩ := fun i hi => by
  obtain ⟨g, hg, _⟩ := hva (by omega)
  exact ⟨g, hg⟩
 have hkm := own_max4 row4
 have HV := hide (And.intro hgv (And.intro row4 hkl))
 clear hgv row4 hkl hva
 have hbl : (bareF o').length ≤ 600 := Nat.le_trans (bare_len o') hle
 generalize hM : memF sn (memF kSig (some (.obj o'))) = M at *
 have HM := hide hM
 clear hM
 go_wp2_with fail
 go_loopg [11] ks.length (fun gg a wr => ∃ (i : Nat), gg = ks.length - i ∧ i ≤ ks.length ∧ a = .int .i64 (i : Int) ∧ wr = w6 ∧ ∀ j k, j < i → ks[j]? = some k → sgOk o' sn k = true)
 case atStart => exact ⟨0, rfl, by omega, rfl, rfl, fun _ _ h => absurd h (by omega)⟩
 case round =>
  obtain ⟨i, hg, hin, rfl, rfl, hall⟩ := hrel
  have HG := hide (And.intro hg hall)
  clear hg hall
  by_cases hlt : i < ks.length
  ·have hlt' : (i : Int) < (ks.length : Int) := by omega
   obtain ⟨k, hk⟩ : ∃ k, ks[i]? = some k := ⟨ks[i], List.getElem?_eq_getElem hlt⟩
   obtain ⟨g, rfl⟩ := HV.out.1 i hlt
   obtain ⟨c0, c1, c2, c3⟩ := ky_cells HV.out.2.1 i k hk
   have hkk := HV.out.2.2 k (List.mem_of_getElem? hk)
   obtain ⟨tl, htl⟩ : ∃ tl : Bs, sealF ⟨k.key.toArray⟩ ⟨(bareF o').toArray⟩ = ⟨tl.toArray⟩ := ⟨_, rfl⟩
   have hseal := refSeal_any ⟨k.key.toArray⟩ ⟨(bareF o').toArray⟩ wr (by rw [mk_size2]; omega) (by rw [mk_size2]; omega)
   have HSL : Hid (Calls Tryz.prog 49 #[.string ⟨k.key.toArray⟩, .string ⟨(bareF o').toArray⟩] wr fun e w' => e = .returned (.string ⟨tl.toArray⟩) ∧ w' = wr) := by
    refine hseal.mono ?_
    rintro e w' ⟨rfl, rfl⟩
    exact ⟨congrArg (fun q => Ending.returned (.string q)) htl, rfl⟩
   have hsg : sgOk o' sn k = (k.old || match memF k.id M with | some (.str t) => decide (t = tl) | _ => false) := by
    unfold sgOk
    have e9 : (⟨tl.toArray⟩ : ByteArray).data.toList = tl := by simp
    rw [HM.out, htl, e9]
    all_goals
     cases memF k.id M with
     | none => rfl
     | some j => cases j <;> rfl
   have HS := hide (And.intro hsg hk)
   clear hsg hk hseal htl hkk
   go_wp2_with fail
   refine (getJ wr _ _ PM k.id).mono ?_
   rintro e w7 ⟨px, rfl, rfl, PX⟩
   generalize memF k.id M = X at *
   go_wp2_with fail
   refine HSL.out.mono ?_
   rintro e w8 ⟨rfl, rfl⟩
   have next : sgOk o' sn k = true → ∀ j q, j < i + 1 → ks[j]? = some q → sgOk o' sn q = true := by
    intro hok j q hj hq
    rcases Nat.lt_or_ge j i with h | h
    ·exact HG.out.2 j q h hq
    ·have : j = i := by omega
     subst this
     rw [HS.out.2] at hq
     injection hq with hq
     subst hq
     exact hok
   have bad : sgOk o' sn k = false → readF s.data.toList = .error 5 := by
    intro hno
    rw [HN.out, if_neg]
    intro hall
    have := List.all_eq_true.1 hall k (List.mem_of_getElem? HS.out.2)
    rw [hno] at this
    cases this
   have NB := hide (And.intro next bad)
   clear next bad
   cases hko : k.old with
   | true =>
    rw [hko] at c2
    have hok : sgOk o' sn k = true := by rw [HS.out.1, hko]; rfl
    have HK := hide hok
    clear hko hok
    go_wp2
    go_roundg (ks.length - (i + 1))
    case measure => rw [HG.out.1]; omega
    case rel => exact ⟨i + 1, rfl, by omega, int_i64 (by omega), rfl, NB.out.1 HK.out⟩
   | false =>
    rw [hko] at c2
    rcases PX with ⟨rfl, rfl⟩ | ⟨xb, jx, rfl, rfl, _, hrx⟩
    ·have HE := hide (NB.out.2 (by rw [HS.out.1, hko]; rfl))
     clear hko
     go_wp2
     exact bodyPost_ret (rd_results _ rfl rfl (set3 I24)) rfl (rd_err K04 HE.out)
    ·by_cases hkd : rkind jx = 34
     ·obtain ⟨t, rfl⟩ := kind_str hkd
      clear hkd
      cases hrx with
      | str t hFx hxb =>
       obtain ⟨x0, x1, x2, x3, x4, xz0, xz1, xz2, xz3, xz4, hxbl⟩ := vfacts hxb
       by_cases ht : t = tl
       ·have ht' : (t == tl) = true := by simpa using ht
        have hok : sgOk o' sn k = true := by rw [HS.out.1, hko]; simp [ht]
        have HK := hide hok
        clear hko hok ht
        go_wp2
        go_roundg (ks.length - (i + 1))
        case measure => rw [HG.out.1]; omega
        case rel => exact ⟨i + 1, rfl, by omega, int_i64 (by omega), rfl, NB.out.1 HK.out⟩
       ·have ht' : (t == tl) = false := by simpa using ht
        have HE := hide (NB.out.2 (by rw [HS.out.1, hko]; simp [ht]))
        clear hko ht
        go_wp2
        exact bodyPost_ret (rd_results _ rfl rfl (set3 I24)) rfl (rd_err K04 HE.out)
     ·obtain ⟨nn, tt, K2', L2', hb2⟩ := hrx.kind
      obtain ⟨x0, x1, x2, x3, x4, xz0, xz1, xz2, xz3, xz4, hxbl⟩ := vfacts hb2
      have hkn : (((rkind jx : Nat) : Int) != 34) = true := by simp; omega
      have HE := hide (NB.out.2 (by
       rw [HS.out.1, hko]
       cases jx with
       | str t => exact absurd rfl hkd
       | _ => rfl))
      clear hrx hb2 hkd hko HS NB
      generalize rkind jx = kd at *
      go_wp2
      exact bodyPost_ret (rd_results _ rfl rfl (set3 I24)) rfl (rd_err K04 HE.out)
  ·have hlt' : ¬ (i : Int) < (ks.length : Int) := by omega
   have HE : Hid (readF s.data.toList = .ok (sn, u, ks)) := by
    show _ = _
    rw [HN.out, if_pos]
    rw [List.all_eq_true]
    intro k hk
    obtain ⟨j, hj, he⟩ := List.mem_iff_getElem.1 hk
    exact HG.out.2 j k (by omega) (by rw [List.getElem?_eq_getElem hj, he])
   go_wp2
   exact bodyPost_ret (rd_results _ rfl rfl (set3 I24)) rfl (rd_ok K04 hw1 HV.out.2.1 HE.out)
theorem rread_c (W : World) (hG : GL W) (s : ByteArray) (w : World) (ho : Below W.heap.size W w) :
  Calls Tryz.prog 21 #[.string s] w fun e w' => RdR w (readF s.data.toList) e w' := by
 cases hof : objectF s.data.toList with
 | error n => exact rread_no W hG s w ho (fun o h => by rw [hof] at h; cases h)
 | ok o =>
  cases hdf : docF o with
  | none => exact rread_no W hG s w ho (fun o' h => by rw [hof] at h; injection h with h; subst h; exact hdf)
  | some d =>
   obtain ⟨sn, u, ks⟩ := d
   exact rread_yes W hG s w ho o hof sn u ks hdf
end Go.Proofs.YtocligpfmfmihaaGreatDoor

import Derived.Test.YtocligpfmfmihabGreatDoorRea8G
import Derived.Test.YtocligpfmfmihabGreatDoorPr11G
import Derived.Test.YtocligpfmfmihabGreatDoorPr2G
import Derived.Test.YtocligpfmfmihabGreatDoorSemG
import Derived.Laws.OwnMore
import Derived.Test.YtocligpfmfmihabGreatDoorChn6wG
import Derived.Test.YtocligpfmfmihabGreatDoorPn8G
import Derived.Test.YtocligpfmfmihabGreatDoorHon5G
import Derived.Deep.RegionHeld
import Derived.Test.YtocligpfmfmihabGreatDoorVmG
import Derived.Test.YtocligpfmfmihabGreatDoorPr12G
import Derived.Lib.SliceRun
namespace Go.Proofs.YtocligpfmfmihabGreatDoor
open Go Go.RowKit Go.Maps
attribute [local go_sem] Oper.semAt_some

/-- An event of the reference, in memory. -/
def evC (pv : Option Addr) (sv : Value) (at' : Int) (msg : Bs) : Obj := .cells #[.pointer pv, sv, .int .i64 at', .string ⟨msg.toArray⟩] 0
end Go.Proofs.YtocligpfmfmihabGreatDoor
namespace Go.Proofs.YtocligpfmfmihabGreatDoor
open Go Go.RowKit Go.Maps
attribute [local go_sem] Oper.semAt_some

/-- An event of the reference, with all that it leads to: blocks from lo up to hi. -/
structure REv (w : World) (lo hi eb vb : Nat) (sv : Value) (l : List (Bs × J)) (ss : List Bs) (at' : Int) (msg : Bs) : Prop where
  blk : w.heap[eb]? = some (evC (some ⟨vb, 0, none⟩) sv at' msg)
  tree : RR w (fun c => lo ≤ c ∧ c < hi) (.obj l) vb
  row : w.ownsRow lo 9 1 sv ss.length (ss.map fun s => .string ⟨s.toArray⟩)
  len : (cJ (.obj l)).length ≤ 600
  mlen : msg.length ≤ 1000
  ebl : lo ≤ eb ∧ eb < hi
  svl : ∀ k, sv.ownBlock = some k → k < hi
  hil : hi ≤ w.heap.size
theorem REv.frame {w w' : World} {lo hi eb vb : Nat} {sv : Value} {l : List (Bs × J)} {ss : List Bs} {at' : Int} {msg : Bs} (h : REv w lo hi eb vb sv l ss at' msg) (hs : w.heap.size ≤ w'.heap.size) (hk : ∀ k, lo ≤ k → k < hi → w'.heap[k]? = w.heap[k]?) : REv w' lo hi eb vb sv l ss at' msg :=
  ⟨(hk eb h.ebl.1 h.ebl.2).trans h.blk, h.tree.frame (fun _ hk' => hk _ hk'.1 hk'.2) (fun _ h => h), ownsRow_heap h.row (fun k e => hk k (h.row.lt k e).1 (h.svl k e)), h.len, h.mlen, h.ebl, h.svl, Nat.le_trans h.hil hs⟩
theorem REv.kp {w w' : World} {F : Nat → Prop} {lo hi eb vb : Nat} {sv : Value} {l : List (Bs × J)} {ss : List Bs} {at' : Int} {msg : Bs} (h : REv w lo hi eb vb sv l ss at' msg) (K : Kp F w w') (hF : ∀ k, F k → k < lo ∨ hi ≤ k) : REv w' lo hi eb vb sv l ss at' msg :=
  h.frame K.size (fun k h1 h2 => K.block k (Nat.lt_of_lt_of_le h2 h.hil) (fun hf => by rcases hF k hf with h | h <;> omega))
theorem REv.po {w : World} {lo hi eb vb : Nat} {sv : Value} {l : List (Bs × J)} {ss : List Bs} {at' : Int} {msg : Bs} (h : REv w lo hi eb vb sv l ss at' msg) : PoJ w (some ⟨vb, 0, none⟩) (some (.obj l)) :=
  Or.inr ⟨vb, _, rfl, rfl, h.len, h.tree.frame (fun _ _ => rfl) (fun _ hk => Nat.lt_of_lt_of_le hk.2 h.hil)⟩
end Go.Proofs.YtocligpfmfmihabGreatDoor
namespace Go.Proofs.YtocligpfmfmihabGreatDoor
open Go Go.RowKit Go.Maps
attribute [local go_sem] Oper.semAt_some

/-- The cells of a reply. -/
def rpC (r : Rpl) : List Value := [.string ⟨r.src.toArray⟩, .string ⟨r.srv.toArray⟩, .string ⟨r.text.toArray⟩, .bool r.fails]
/-- Replies that can be read. -/
def RpI (w : World) (rs : List Rpl) (ra : Option Addr) : Prop := ∀ j r, rs[j]? = some r → ∃ g o, ra = some ⟨g, o, none⟩ ∧ ∀ m u, (rpC r)[m]? = some u → w.cell? ⟨g, o + j * 4 + m, none⟩ = some u
theorem RpI.cells {w : World} {rs : List Rpl} {ra : Option Addr} (h : RpI w rs ra) {j : Nat} {r : Rpl} (hr : rs[j]? = some r) : ∃ g o, ra = some ⟨g, o, none⟩ ∧ w.cell? ⟨g, o + j * 4, none⟩ = some (.string ⟨r.src.toArray⟩) ∧ w.cell? ⟨g, o + j * 4 + 1, none⟩ = some (.string ⟨r.srv.toArray⟩) ∧ w.cell? ⟨g, o + j * 4 + 2, none⟩ = some (.string ⟨r.text.toArray⟩) ∧ w.cell? ⟨g, o + j * 4 + 3, none⟩ = some (.bool r.fails) := by
  obtain ⟨g, o, h1, h2⟩ := h j r hr
  exact ⟨g, o, h1, h2 0 _ rfl, h2 1 _ rfl, h2 2 _ rfl, h2 3 _ rfl⟩
def isR (a b : Bs) (r : Rpl) : Bool := decide (r.src = a) && decide (r.srv = b)
theorem fet_hit {rs : List Rpl} {a b : Bs} {n : Nat} {r : Rpl} (hr : rs[n]? = some r) (he : isR a b r = true) (h : ∀ (j : Nat) (q : Rpl), j < n → rs[j]? = some q → isR a b q = false) : fetF rs a b = if r.fails then none else some r.text := by
  have : rs.find? (isR a b) = some r := by
    obtain ⟨x, h1, h2, h3⟩ := ix_some (ix_hit hr he h)
    rw [hr] at h1
    injection h1 with h1
    subst h1
    exact h3
  unfold fetF
  show (rs.find? (isR a b)).bind _ = _
  rw [this]
  rfl
theorem fet_miss {rs : List Rpl} {a b : Bs} (h : ∀ (j : Nat) (q : Rpl), j < rs.length → rs[j]? = some q → isR a b q = false) : fetF rs a b = none := by
  have : rs.find? (isR a b) = none := by
    rw [List.find?_eq_none]
    intro x hx
    obtain ⟨j, hj, he⟩ := List.mem_iff_getElem.1 hx
    have := h j x hj (by rw [List.getElem?_eq_getElem hj, he])
    simp [this]
  unfold fetF
  show (rs.find? (isR a b)).bind _ = _
  rw [this]
  rfl
theorem pair_facts {w : World} {b : Nat} {x y : Value} {T : TypeId} (h : w.heap[b]? = some (.cells #[x, y] T)) : (w.cell? ⟨b, 0, none⟩ = some x ∧ w.cell? ⟨b, 1, none⟩ = some y) ∧ w.frozen? ⟨b, 0, none⟩ = false ∧ w.frozen? ⟨b, 1, none⟩ = false := by
  refine ⟨⟨?_, ?_⟩, ?_, ?_⟩ <;> simp [World.cell?, World.frozen?, h]
theorem set_pair {w : World} {b : Nat} {x y p q : Value} {T : TypeId} (h : w.heap[b]? = some (.cells #[x, y] T)) : ((w.setCell ⟨b, 0, none⟩ p).setCell ⟨b, 1, none⟩ q).heap[b]? = some (.cells #[p, q] T) := by
  simp [World.setCell, Array.getElem?_modify, h]
theorem set_kp {w w6 : World} {b : Nat} {p q : Value} (h : Kp (fun _ => False) w w6) (hb : w.heap.size ≤ b) : Kp (fun _ => False) w ((w6.setCell ⟨b, 0, none⟩ p).setCell ⟨b, 1, none⟩ q) :=
  Kp.setCell (p := ⟨b, 1, none⟩) (Kp.setCell (p := ⟨b, 0, none⟩) h (fun e => absurd e (Nat.not_lt.2 hb)) _) (fun e => absurd e (Nat.not_lt.2 hb)) _
/-- An outcome. -/
def outV (o : Nat × Bs) : Value := .agg #[.int .i64 (o.1 : Int), .string ⟨o.2.toArray⟩]
end Go.Proofs.YtocligpfmfmihabGreatDoor
namespace Go.Proofs.YtocligpfmfmihabGreatDoor
open Go Go.RowKit Go.Maps Go.WideMaps
attribute [local go_sem] Oper.semAt_some

/-- What signersOf comes to. -/
def SoR (W w : World) (o : Option (List Bs)) (e : Ending) (w' : World) : Prop := Kp (fun _ => False) w w' ∧ match o with
  | some ss => ∃ v, e = .returned (.tuple #[v, .nilIface]) ∧ w'.ownsRow w.heap.size 9 1 v ss.length (ss.map fun s => .string ⟨s.toArray⟩)
  | none => ∃ ev, e = .returned (.tuple #[.slice none 0 0, ev]) ∧ Ech W w' ev
theorem set_snd {w : World} {g : Nat} {x y q : Value} {T : TypeId} (h : w.heap[g]? = some (.cells #[x, y] T)) : (w.setCell ⟨g, 1, none⟩ q).heap[g]? = some (.cells #[x, q] T) := by
  simp [World.setCell, Array.getElem?_modify, h]
theorem zStr (w : World) : (zeroValue 9).run Tryz.prog w = .ok (.string ⟨#[]⟩) w := by kernel_rfl
theorem clr1 {w : World} {g : Nat} {a b : Value} (h : w.heap[g]? = some (.cells #[a, b] 9)) (ty : TypeId) : (Builtin.clear_ #[26] ty #[.slice (some ⟨g, 1, none⟩) 1 1]).run Tryz.prog w = .ok (.tuple #[]) (w.setCell ⟨g, 1, none⟩ (.string ⟨#[]⟩)) := by
  obtain ⟨⟨c0, c1⟩, f0, f1⟩ := pair_facts h
  have hc : ∀ j, j < 1 → (w.cell? ⟨g, 1 + j, none⟩).isSome = true := by
    intro j hj
    have : j = 0 := by omega
    subst this
    rw [show 1 + 0 = 1 from rfl, c1]
    rfl
  have hf : ∀ j, j < 1 → w.frozen? ⟨g, 1 + j, none⟩ = false := by
    intro j hj
    have : j = 0 := by omega
    subst this
    exact f1
  exact Lib.run_clear_slice w 26 9 ty (.string ⟨#[]⟩) Tryz.underlying26 zStr rfl rfl g 1 1 1 (by omega) hc hf
set_option maxRecDepth 20000 in
set_option maxHeartbeats 4000000 in
theorem compact2_c (w : World) (g : Nat) (a b : Bs) (h : w.heap[g]? = some (.cells #[.string ⟨a.toArray⟩, .string ⟨b.toArray⟩] 9)) :
    Calls Tryz.prog 117 #[.slice (some ⟨g, 0, none⟩) 2 2] w fun e w' => (a ≠ b ∧ e = .returned (.slice (some ⟨g, 0, none⟩) 2 2) ∧ Kp (fun _ => False) w w') ∨ (a = b ∧ e = .returned (.slice (some ⟨g, 0, none⟩) 1 2) ∧ Kp (fun k => k = g) w w' ∧ w'.heap[g]? = some (.cells #[.string ⟨a.toArray⟩, .string ⟨#[]⟩] 9)) := by
  obtain ⟨⟨c0, c1⟩, f0, f1⟩ := pair_facts h
  go_enter Tryz.func117, Tryz.ntmps117
  go_wp2_with fail
  go_loopg [3] 1 (fun gg q wx => Kp (fun _ => False) w wx ∧ ((gg = 1 ∧ q = .int .i64 1) ∨ (gg = 0 ∧ q = .int .i64 2 ∧ a ≠ b)))
  case atStart => exact ⟨Kp.refl _ _, Or.inl ⟨rfl, rfl⟩⟩
  case round =>
    obtain ⟨Kr, hq⟩ := hrel
    have hr := Kr.heap h
    clear c0 c1 f0 f1
    obtain ⟨⟨c0, c1⟩, f0, f1⟩ := pair_facts hr
    have HK := hide (And.intro Kr hr)
    clear Kr hr
    rcases hq with ⟨hg, rfl⟩ | ⟨hg, rfl, hne⟩
    · by_cases he : a = b
      · have he' : (b == a) = true := by simpa using he.symm
        have HE := hide (And.intro he hg)
        clear he hg
        go_wp2
        go_quiet (fail)
        go_wp2_with fail
        go_loopg [3, 5] 0 (fun gg p q wx => wx = wr.drewN nq ∧ gg = 0 ∧ p = .int .i64 1 ∧ q = .int .i64 1)
        case atStart => exact ⟨rfl, rfl, rfl, rfl⟩
        case round =>
          obtain ⟨rfl, _, rfl, rfl⟩ := hrel
          have Kd : Kp (fun _ => False) w (wr.drewN nq) := HK.out.1.drewN nq
          have hd := ((Kp.refl (fun _ => False) wr).drewN nq).heap HK.out.2
          have hcl := clr1 hd 0
          have hend : ((wr.drewN nq).setCell ⟨g, 1, none⟩ (.string ⟨#[]⟩)).heap[g]? = some (.cells #[.string ⟨a.toArray⟩, .string ⟨#[]⟩] 9) := set_snd hd
          have HX := hide (And.intro Kd hend)
          clear Kd hd hend
          go_wp2
          go_ret
          exact Or.inr ⟨HE.out.1, rfl, Kp.setCell (S := fun k => k = g) (p := ⟨g, 1, none⟩) (HX.out.1.mono (fun _ _ h => h.elim)) (fun _ => rfl) _, HX.out.2⟩
      · have he' : (b == a) = false := by simpa using Ne.symm he
        have HE := hide (And.intro he hg)
        clear he hg
        go_wp2
        go_quiet (fail)
        go_wp2
        go_roundg 0
        all_goals first
          | (rw [HE.out.2]; omega)
          | exact ⟨HK.out.1.drewN _, Or.inr ⟨rfl, rfl, HE.out.1⟩⟩
    · have HE := hide hne
      clear hne hg
      go_wp2
      go_ret
      exact Or.inl ⟨HE.out, rfl, HK.out.1⟩
theorem own_pair {w : World} {B g n : Nat} {x y : Value} {ss : List Value} (h : w.heap[g]? = some (.cells #[x, y] 9)) (hB : B ≤ g) (hn : n ≤ 2) (hs : ss = [x, y].take n) : w.ownsRow B 9 1 (.slice (some ⟨g, 0, none⟩) n 2) n ss := by
  subst hs
  refine ⟨by rw [List.length_take]; simp; omega, Or.inr ⟨g, 2, #[x, y], rfl, hB, h, hn, by unfold maxLen; omega, rfl, by simp⟩⟩
set_option maxRecDepth 20000 in
set_option maxHeartbeats 4000000 in
theorem signersOf_c (W : World) (hN : NG2 W) (w : World) (hW : Below W.heap.size W w) (l : List (Bs × J)) (b : Nat) (ho : Oz w l b) :
    Calls Tryz.prog 72 #[.map (some b)] w fun e w' => SoR W w (srvF l) e w' := by
  have HN1 := hide (nameUnder_c W hN w hW l b kOri (by decide) ho)
  have HO := hide ho
  clear ho
  go_enter Tryz.func72, Tryz.ntmps72
  go_wp2_with fail
  refine HN1.out.mono ?_
  rintro e w1 ⟨K1, h1⟩
  have HK1 := hide K1
  clear K1 HN1
  cases hno : nameF (lookK kOri l) with
  | none =>
    rw [hno] at h1
    obtain ⟨ev, rfl, he⟩ := h1
    obtain ⟨tt, uu, rfl⟩ := he.iface
    have HC : Hid (srvF l = none) := by show _ = _; unfold srvF; rw [hno]; rfl
    have HE := hide he
    clear he hno
    go_wp2
    go_ret2
    rw [HC.out]
    exact ⟨HK1.out, _, rfl, HE.out⟩
  | some o =>
    rw [hno] at h1
    replace h1 : e = .returned (.tuple #[.string ⟨o.toArray⟩, .nilIface]) := h1
    subst h1
    obtain ⟨v, hlk⟩ := ud_ok w1 l b kSen (by decide) (HO.out.up HK1.out)
    cases hls : lookK kSen l with
    | none =>
      rw [hls] at hlk
      replace hlk : (Instr.lookup 76 (.map (some b)) (.string ⟨#[115, 101, 110, 100, 101, 114]⟩) true).run Tryz.prog w1 = .ok (.tuple #[v, .bool false]) w1 := hlk
      have HC : Hid (srvF l = some [o]) := by show _ = _; unfold srvF; rw [hno, hls]; rfl
      clear hno hls
      go_wp2
      go_ret2
      rw [HC.out]
      have := HK1.out.size
      refine ⟨HK1.out.alloc _, _, rfl, ?_⟩
      exact World.ownsRow_lit (base := w.heap.size) (e := 9) (size := 1) w1 #[.string ⟨o.toArray⟩] 1 (by omega) (by unfold maxLen; omega) rfl
    | some j =>
      rw [hls] at hlk
      replace hlk : (Instr.lookup 76 (.map (some b)) (.string ⟨#[115, 101, 110, 100, 101, 114]⟩) true).run Tryz.prog w1 = .ok (.tuple #[v, .bool true]) w1 := hlk
      have HN2 := hide (nameUnder_c W hN w1 (below_kp hW HK1.out) l b kSen (by decide) (HO.out.up HK1.out))
      go_wp2_with fail
      refine HN2.out.mono ?_
      rintro e w2 ⟨K2, h2⟩
      have HK2 := hide (HK1.out.trans K2)
      clear K2 HN2 hlk
      rw [hls] at h2
      cases hns : nameF (some j) with
      | none =>
        rw [hns] at h2
        obtain ⟨ev, rfl, he⟩ := h2
        obtain ⟨tt, uu, rfl⟩ := he.iface
        have HC : Hid (srvF l = none) := by show _ = _; unfold srvF; rw [hno, hls]; simp only [Option.bind_some]; rw [hns]; rfl
        have HE := hide he
        clear he hno hls hns
        go_wp2
        go_ret2
        rw [HC.out]
        exact ⟨HK2.out, _, rfl, HE.out⟩
      | some s =>
        rw [hns] at h2
        replace h2 : e = .returned (.tuple #[.string ⟨s.toArray⟩, .nilIface]) := h2
        subst h2
        have HC : Hid (srvF l = some (if s = o then [o] else [o, s])) := by show _ = _; unfold srvF; rw [hno, hls]; simp only [Option.bind_some]; rw [hns]; rfl
        have Ia := heap_alloc_new w2 (.cells #[.string ⟨o.toArray⟩, .string ⟨s.toArray⟩] 9)
        have HCM := hide (compact2_c _ w2.heap.size o s Ia)
        have hs2 := HK2.out.size
        clear hno hls hns
        go_wp2_with fail
        refine HCM.out.mono ?_
        rintro e w3 (⟨hne, rfl, K3⟩ | ⟨rfl, rfl, K3, h3⟩)
        · have HK3 := hide (And.intro ((HK2.out.alloc _).trans K3) (K3.heap Ia))
          have HE := hide hne
          clear K3 hne Ia HCM
          go_wp2
          go_ret2
          rw [HC.out, if_neg (Ne.symm HE.out)]
          exact ⟨HK3.out.1, _, rfl, own_pair HK3.out.2 (by omega) (by omega) rfl⟩
        · have HK3 := hide (And.intro ((HK2.out.alloc _).and K3 (fun q hq e => by omega)) h3)
          clear K3 h3 Ia HCM
          go_wp2
          go_ret2
          rw [HC.out, if_pos trivial]
          exact ⟨HK3.out.1, _, rfl, own_pair HK3.out.2 (by omega) (by omega) rfl⟩
end Go.Proofs.YtocligpfmfmihabGreatDoor
namespace Go.Proofs.YtocligpfmfmihabGreatDoor
open Go Go.RowKit Go.Maps Go.WideMaps
attribute [local go_sem] Oper.semAt_some

theorem infoCl : (Tryz.prog.info? 67).map (fun i => (i.zero, i.size, i.bytes)) = some (some (.agg #[.string ⟨#[]⟩, .int .i64 0, .string ⟨#[]⟩, .slice none 0 0]), 4, 64) := by kernel_rfl
/-- The cells of a claim. -/
def clC (p : Clm × Value) : List Value := [.string ⟨p.1.server.toArray⟩, .int .i64 p.1.ts, .string ⟨p.1.msg.toArray⟩, p.2]
/-- Claims in memory, from block lo on. -/
def ClR (w : World) (lo : Nat) (v : Value) (ps : List (Clm × Value)) : Prop := w.ownsRow lo 67 4 v ps.length (ps.flatMap clC) ∧ ∀ p ∈ ps, w.ownsRow lo 120 2 p.2 p.1.sigs.length (p.1.sigs.flatMap sgC)
/-- What claimsOf comes to. -/
def CoV (W w : World) (o : Option (List Clm)) (e : Ending) (w' : World) : Prop := Kp (fun _ => False) w w' ∧ match o with
  | some cs => ∃ v ps, e = .returned (.tuple #[v, .nilIface]) ∧ ps.map (·.1) = cs ∧ ClR w' w.heap.size v ps
  | none => ∃ ev, e = .returned (.tuple #[.slice none 0 0, ev]) ∧ Ech W w' ev
theorem nameF_len {o : Option J} {s : Bs} (h : nameF o = some s) : s.length ≤ 20 := by
  unfold nameF at h
  simp only [Option.bind_eq_some_iff] at h
  obtain ⟨t, _, h⟩ := h
  split at h
  · rename_i hn
    injection h with h
    subst h
    unfold isNm at hn
    simp at hn
    exact hn.2
  · cases h
theorem srvF_ok {l : List (Bs × J)} {ss : List Bs} (h : srvF l = some ss) : ss.length ≤ 2 ∧ ∀ s ∈ ss, s.length ≤ 1000 := by
  unfold srvF at h
  simp only [Option.bind_eq_some_iff] at h
  obtain ⟨o, ho, h⟩ := h
  have h1 := nameF_len ho
  split at h
  · injection h with h
    subst h
    refine ⟨by simp, ?_⟩
    intro s hs
    simp at hs
    subst hs
    omega
  · simp only [Option.map_eq_some_iff] at h
    obtain ⟨q, hq, rfl⟩ := h
    have h2 := nameF_len hq
    split
    · refine ⟨by simp, ?_⟩
      intro s hs
      simp at hs
      subst hs
      omega
    · refine ⟨by simp, ?_⟩
      intro s hs
      simp at hs
      rcases hs with rfl | rfl <;> omega
set_option maxRecDepth 20000 in
set_option maxHeartbeats 4000000 in
theorem claimsOf_c (W : World) (hN : NG2 W) (w : World) (hW : Below W.heap.size W w) (l : List (Bs × J)) (b : Nat) (ho : Oz w l b) (hwf : WF 6 (.obj l)) (hcl : (cJ (.obj l)).length ≤ 600) :
    Calls Tryz.prog 45 #[.map (some b)] w fun e w' => CoV W w (clmF l) e w' := by
  obtain ⟨f1, f2, f3, f4⟩ := bare_fits hwf hcl
  have HSO := hide (signersOf_c W hN w hW l b ho)
  have HO := hide (And.intro ho (And.intro hwf hcl))
  clear ho hwf hcl
  go_enter Tryz.func45, Tryz.ntmps45
  go_wp2_with fail
  refine HSO.out.mono ?_
  rintro e w1 ⟨K1, h1⟩
  have HK1 := hide K1
  clear K1 HSO
  cases hno : srvF l with
  | none =>
    rw [hno] at h1
    obtain ⟨ev, rfl, he⟩ := h1
    obtain ⟨tt, uu, rfl⟩ := he.iface
    have HC : Hid (clmF l = none) := by show _ = _; unfold clmF; rw [hno]; rfl
    have HE := hide he
    clear he hno
    go_wp2
    go_ret2
    rw [HC.out]
    exact ⟨HK1.out, _, rfl, HE.out⟩
  | some ss =>
    rw [hno] at h1
    obtain ⟨sv, rfl, rs⟩ := h1
    obtain ⟨sa, sc, rfl, hsm, hsa⟩ := own_sl rs
    have HMU := hide (momentUnder_c W hN w1 (below_kp hW HK1.out) l b kTs (by decide) (HO.out.1.up HK1.out))
    have HR := hide (And.intro rs hsa)
    clear rs hsa
    go_wp2_with fail
    refine HMU.out.mono ?_
    rintro e w2 ⟨K2, h2⟩
    have HK2 := hide (And.intro K2 (HK1.out.trans K2))
    clear K2 HMU
    cases hmo : momF (lookK kTs l) with
    | none =>
      rw [hmo] at h2
      obtain ⟨ev, rfl, he⟩ := h2
      obtain ⟨tt, uu, rfl⟩ := he.iface
      have HC : Hid (clmF l = none) := by show _ = _; unfold clmF; rw [hno, hmo]; rfl
      have HE := hide he
      clear he hno hmo
      go_wp2
      go_ret2
      rw [HC.out]
      exact ⟨HK2.out.2, _, rfl, HE.out⟩
    | some t =>
      rw [hmo] at h2
      replace h2 : e = .returned (.tuple #[.int .i64 t, .nilIface]) := h2
      subst h2
      have HC : Hid (clmF l = some (ss.map fun s => ⟨s, t, bareF l, sigF l s⟩)) := by show _ = _; unfold clmF; rw [hno, hmo]; rfl
      have hss := srvF_ok hno
      have HMS := hide (messageOf_c W hN.ng w2 (below_kp hW HK2.out.2) _ l b (HO.out.1.up HK2.out.2) (fun _ h => h) f1 f2 f3)
      have HSS := hide hss.2
      have hsl := hss.1
      clear hno hmo hss f1 f2 f3
      go_wp2_with fail
      refine HMS.out.mono ?_
      rintro e w3 ⟨rfl, K3⟩
      have HK3 := hide (And.intro (HK2.out.1.trans K3) (HK2.out.2.trans K3))
      clear K3 HMS
      obtain ⟨i0, hi, hz0, hz1, hz2⟩ := info_parts infoCl
      go_wp2_with fail
      go_loopg [8, 31] ss.length (fun gg a q wx => ∃ (i : Nat) (ps : List (Clm × Value)), gg = ss.length - i ∧ i ≤ ss.length ∧ q = .int .i64 (i : Int) ∧ Kp (fun _ => False) w3 wx ∧ ps.length = i ∧ ps.map (·.1) = (ss.take i).map (fun s => ⟨s, t, bareF l, sigF l s⟩) ∧ ClR wx w3.heap.size a ps)
      case atStart => exact ⟨0, [], rfl, by omega, rfl, Kp.refl _ _, rfl, rfl, World.ownsRow_nil _ _ _ _, fun p h => (by cases h)⟩
      case round =>
        obtain ⟨i, ps, hgg, hin, rfl, Kr, hpl, hpm, hC⟩ := hrel
        have Kw := HK3.out.2.trans Kr
        have hsz := Kw.size
        have hs3 := Kr.size
        have HG := hide (And.intro hgg (And.intro Kr (And.intro hpm (And.intro hC Kw))))
        clear hgg hpm
        by_cases hlt : i < ss.length
        · have hlt' : (i : Int) < (ss.length : Int) := by omega
          obtain ⟨s, hs⟩ : ∃ s, ss[i]? = some s := ⟨ss[i], List.getElem?_eq_getElem hlt⟩
          obtain ⟨g, rfl, hg⟩ := HR.out.2 (by omega)
          have cx : wr.cell? ⟨g, i, none⟩ = some (.string ⟨s.toArray⟩) := own_cell (ownsRow_kp HR.out.1 (HK3.out.1.trans Kr) (by simp)) i _ (by rw [List.getElem?_map, hs]; rfl)
          have HSG := hide (signaturesOf_c wr l b (HO.out.1.up Kw) HO.out.2.1 HO.out.2.2 s (HSS.out s (List.mem_of_getElem? hs)))
          have htk : (ss.take (i + 1)).map (fun s => (⟨s, t, bareF l, sigF l s⟩ : Clm)) = (ss.take i).map (fun s => ⟨s, t, bareF l, sigF l s⟩) ++ [⟨s, t, bareF l, sigF l s⟩] := by
            rw [take_succ hs, List.map_append]
            rfl
          have HTK := hide htk
          clear htk hs Kr Kw hC
          go_wp2_with fail
          refine HSG.out.mono ?_
          rintro e w5 ⟨K5, v, rfl, rv⟩
          obtain ⟨va, vc, rfl, _, _⟩ := own_sl rv
          have row5 := ownsRow_kp HG.out.2.2.2.1.1 K5 (by simp)
          have hs5 := K5.size
          have HV := hide (And.intro K5 rv)
          clear K5 rv HSG
          go_wp2_with (at_builtin; (refine wpList_append_own_at _ rfl _ _ 56 rfl w3.heap.size 67 i0 (.agg #[.string ⟨#[]⟩, .int .i64 0, .string ⟨#[]⟩, .slice none 0 0]) 4 64 Tryz.underlying56 hi hz0 hz1 hz2 rfl (by decide) _ _ _ rfl (by exact World.ownsRow.alloc row5 _) ⟨w5.heap.size, 0, none⟩ 1 1 (clC (⟨s, t, bareF l, sigF l s⟩, .slice va (sigF l s).length vc)) rfl rfl ?_ (by intro u hu; simp [clC] at hu; rcases hu with rfl | rfl | rfl | rfl <;> rfl) (by unfold maxLen; omega) (by omega) (by simp; omega) ?_))
          · intro j u hj
            rcases j with _ | _ | _ | _ | j
            all_goals simp [clC] at hj
            all_goals subst hj
            all_goals simp [Addr.add]
          intro v6 w6 y1 y2 _ y3
          obtain ⟨ca, cc, rfl, _, _⟩ := own_sl y1
          have K6 : Kp (fun _ => False) w3 w6 := ((HG.out.2.1.trans HV.out.1).alloc _).gr y2 (fun r e => (row5.lt r e).1)
          have keep : ∀ {v : Value} {n : Nat} {xs : List Value}, w5.ownsRow w3.heap.size 120 2 v n xs → w6.ownsRow w3.heap.size 120 2 v n xs := by
            intro v n xs hr
            refine ownsRow_heap hr (fun k e => ?_)
            have h1 := (hr.lt k e).2
            rw [y2.block k (by simp; omega) (fun e2 => row_apart row5 hr (by decide) e2.symm e)]
            exact Below.heap_alloc _ _ _ h1
          have hnew := keep (own_base (show w3.heap.size ≤ wr.heap.size by omega) HV.out.2)
          have hold : ∀ p ∈ ps, w6.ownsRow w3.heap.size 120 2 p.2 p.1.sigs.length (p.1.sigs.flatMap sgC) := fun p hp => keep (ownsRow_kp (HG.out.2.2.2.1.2 p hp) HV.out.1 (by simp))
          have H6 := hide (And.intro K6 (And.intro y1 (And.intro hnew hold)))
          clear K6 y1 y2 y3 hnew hold keep row5
          go_wp2
          go_roundg (ss.length - (i + 1))
          case measure => rw [HG.out.1]; omega
          case rel =>
            refine ⟨i + 1, ps ++ [(⟨s, t, bareF l, sigF l s⟩, .slice va (sigF l s).length vc)], rfl, by omega, int_i64 (by omega), H6.out.1, by simp [hpl], ?_, ?_, ?_⟩
            · rw [List.map_append, HTK.out, HG.out.2.2.1]
              rfl
            · rw [List.flatMap_append, List.length_append, hpl]
              have e9 : List.flatMap clC [((⟨s, t, bareF l, sigF l s⟩ : Clm), Value.slice va (sigF l s).length vc)] = clC (⟨s, t, bareF l, sigF l s⟩, .slice va (sigF l s).length vc) := by simp
              rw [e9]
              exact H6.out.2.1
            · intro p hp
              rcases List.mem_append.1 hp with h | h
              · exact H6.out.2.2.2 p h
              · obtain rfl := List.mem_singleton.1 h
                exact H6.out.2.2.1
        · have hlt' : ¬ (i : Int) < (ss.length : Int) := by omega
          have hw3 := HK3.out.2.size
          have hpm : ps.map (·.1) = ss.map (fun s => ⟨s, t, bareF l, sigF l s⟩) := by
            rw [HG.out.2.2.1, List.take_of_length_le (by omega)]
          have HPM := hide hpm
          clear hpm Kr Kw hC
          go_wp2
          go_ret2
          rw [HC.out]
          exact ⟨HG.out.2.2.2.2, _, ps, rfl, HPM.out, own_base hw3 HG.out.2.2.2.1.1, fun p hp => own_base hw3 (HG.out.2.2.2.1.2 p hp)⟩
end Go.Proofs.YtocligpfmfmihabGreatDoor

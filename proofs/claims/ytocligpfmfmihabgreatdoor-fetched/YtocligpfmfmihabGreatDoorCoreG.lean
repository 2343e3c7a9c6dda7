import Derived.Test.YtocligpfmfmihabGreatDoorSize
import Derived.Test.YtocligpfmfmihabGreatDoorRd3G
import Derived.Test.YtocligpfmfmihabGreatDoorShelf
import Derived.Laws.IdiomStrings
import Derived.Lib.RuneBytes
import Derived.OwnWalk
namespace Go.Proofs.YtocligpfmfmihabGreatDoor
open Go.Lib

def kSig : Bs := [115, 105, 103, 110, 97, 116, 117, 114, 101, 115]
def kUns : Bs := [117, 110, 115, 105, 103, 110, 101, 100]
/-- The value of a text, or an error's number. -/
def valueF (s : Bs) : Except Nat J := if 600 < s.length then .error 1 else match parse s with | none => .error 2 | some j => .ok j
def objectF (s : Bs) : Except Nat (List (Bs × J)) := match valueF s with | .error e => .error e | .ok (.obj l) => .ok l | .ok _ => .error 3
def bareL (l : List (Bs × J)) : List (Bs × J) := delK kUns (delK kSig l)
def bareF (l : List (Bs × J)) : Bs := cJ (.obj (bareL l))
def childF (k : Bs) (l : List (Bs × J)) : List (Bs × J) := match lookK k l with | some (.obj m) => m | _ => []
def signL (l : List (Bs × J)) (sv id sig : Bs) : List (Bs × J) :=
  insK kSig (.obj (insK sv (.obj (insK id (.str sig) (childF sv (childF kSig l)))) (childF kSig l))) l
/-- What a call answers: a text and an error's number. -/
def ansF (r : Except Nat Bs) : Bs × Nat := match r with | .error e => ([], e) | .ok s => (s, 0)
def messageF (s : Bs) : Bs × Nat := ansF ((objectF s).map bareF)
def signedE (s sv id sig : Bs) : Except Nat Bs :=
  match objectF s with
  | .error e => .error e
  | .ok l => if validD sv && validD id && validD sig then .ok (cJ (.obj (signL l sv id sig))) else .error 2
def signedF (s sv id sig : Bs) : Bs × Nat := ansF (signedE s sv id sig)

/-! ### sorted lists -/
theorem mem_delK {α : Type} {k : Bs} {l : List (Bs × α)} {p : Bs × α} : p ∈ delK k l ↔ p ∈ l ∧ p.1 ≠ k := by simp [delK]
theorem srt_delK {α : Type} (k : Bs) (l : List (Bs × α)) (h : Srt l) : Srt (delK k l) := List.Pairwise.filter _ h
theorem delK_insK {α : Type} (k : Bs) (v : α) (l : List (Bs × α)) : delK k (insK k v l) = delK k l := by
  induction l with
  | nil => simp [insK, delK]
  | cons q l ih =>
    obtain ⟨a, x⟩ := q
    rw [insK]
    split
    · simp [delK]
    · split
      · rename_i e; subst e; simp [delK]
      · rename_i hne
        simp only [delK] at ih ⊢
        simp [hne, ih]
theorem WF_delK (d : Nat) (k : Bs) (l : List (Bs × J)) (h : WF (d + 1) (.obj l)) : WF (d + 1) (.obj (delK k l)) := by
  simp only [WF, WFm_iff] at h ⊢
  exact ⟨srt_delK k l h.1, fun p hp => h.2 p (mem_delK.1 hp).1⟩
theorem WF_insK (d : Nat) (k : Bs) (v : J) (l : List (Bs × J)) (hk : validD k = true) (hv : WF d v) (h : WF (d + 1) (.obj l)) : WF (d + 1) (.obj (insK k v l)) := by
  simp only [WF, WFm_iff] at h ⊢
  refine ⟨srt_insK k v l h.1, fun p hp => ?_⟩
  rcases mem_insK hp with rfl | hp
  · exact ⟨hk, hv⟩
  · exact h.2 p hp
theorem lookK_mem {α : Type} {k : Bs} {l : List (Bs × α)} {v : α} (h : lookK k l = some v) : (k, v) ∈ l := by
  induction l with
  | nil => simp [lookK] at h
  | cons q l ih =>
    obtain ⟨a, x⟩ := q
    by_cases e : a = k
    · simp [lookK, e] at h; subst h; simp [e]
    · simp [lookK, e] at h; simp [ih h]
theorem WF_child (d : Nat) (k : Bs) (l : List (Bs × J)) (h : WF (d + 2) (.obj l)) : WF (d + 1) (.obj (childF k l)) := by
  unfold childF
  split
  · rename_i m hm
    simp only [WF, WFm_iff] at h
    exact (h.2 _ (lookK_mem hm)).2
  · simp [WF, WFm, Srt]
theorem WF_signL (l : List (Bs × J)) (sv id sig : Bs) (h : WF 6 (.obj l)) (h1 : validD sv = true) (h2 : validD id = true) (h3 : validD sig = true) : WF 6 (.obj (signL l sv id sig)) := by
  have c1 := WF_child 4 kSig l h
  have c2 := WF_child 3 sv _ c1
  have a : WF 4 (.obj (insK id (.str sig) (childF sv (childF kSig l)))) := WF_insK 3 id _ _ h2 (by simpa [WF] using h3) c2
  have b : WF 5 (.obj (insK sv (.obj (insK id (.str sig) (childF sv (childF kSig l)))) (childF kSig l))) := WF_insK 4 sv _ _ h1 a c1
  exact WF_insK 5 kSig _ l (by decide) b h

/-! ### Fixed -/
theorem valueF_cJ (j : J) (h : WF 6 j) (hl : (cJ j).length ≤ 600) : valueF (cJ j) = .ok j := by
  unfold valueF
  rw [if_neg (by omega), parse_cJ j h]
theorem bare_sign (l : List (Bs × J)) (sv id sig : Bs) : bareF (signL l sv id sig) = bareF l := by
  unfold bareF bareL signL
  rw [delK_insK]
theorem objectF_obj (l : List (Bs × J)) (h : WF 6 (.obj l)) (hl : (cJ (.obj l)).length ≤ 600) : objectF (cJ (.obj l)) = .ok l := by
  unfold objectF; rw [valueF_cJ _ h hl]

/-! ### what follows a value does not turn it -/
/-! ### depth -/
end Go.Proofs.YtocligpfmfmihabGreatDoor
namespace Go.Proofs.YtocligpfmfmihabGreatDoor
open Go Go.RowKit

variable {S : Nat → Prop} {w w' : World}

theorem ownsRow_kp {B : Nat} {e : TypeId} {sz n : Nat} {v : Value} {xs : List Value} (h : w.ownsRow B e sz v n xs) (hk : Kp S w w') (hS : ∀ k, v.ownBlock = some k → ¬ S k) : w'.ownsRow B e sz v n xs := by
  obtain ⟨h1, h2⟩ := h
  refine ⟨h1, ?_⟩
  rcases h2 with h2 | ⟨g, cap, cur, rfl, hg, hh, r⟩
  · exact Or.inl h2
  · have hb : g < w.heap.size := by
      rcases Nat.lt_or_ge g w.heap.size with h' | h'
      · exact h'
      · rw [Array.getElem?_eq_none h'] at hh; cases hh
    exact Or.inr ⟨g, cap, cur, rfl, hg, by rw [hk.block g hb (hS g rfl)]; exact hh, r⟩
theorem Kp.grown {a : World} {row : Option Nat} (h : Kp S a w) (hg : w.grownBy w' row) (hrow : ∀ k, row = some k → k < a.heap.size → S k) : Kp S a w' :=
  ⟨hg.os.trans h.os, hg.tape.trans h.tape, hg.output.trans h.output, Nat.le_trans h.size hg.size, fun k hk hs =>
    (hg.block k (Nat.lt_of_lt_of_le hk h.size) (fun e => hs (hrow k e.symm hk))).trans (h.block k hk hs)⟩
theorem Kp.and {a b : World} {T : Nat → Prop} (h : Kp S a b) (k : Kp T b w) (hT : ∀ i, i < a.heap.size → T i → S i) : Kp S a w :=
  ⟨k.os.trans h.os, k.tape.trans h.tape, k.output.trans h.output, Nat.le_trans h.size k.size, fun i hi hs => (k.block i (Nat.lt_of_lt_of_le hi h.size) (fun x => hs (hT i hi x))).trans (h.block i hi hs)⟩
theorem St.keep {W : World} {rb k d : Nat} {s : ByteArray} (h : St W w rb s k d) (hk : Kp S w w') (h1 : ∀ i, S i → W.heap.size ≤ i) (h2 : ¬ S rb) : St W w' rb s k d :=
  ⟨h.glob, h.old.trans ⟨hk.os, hk.tape, hk.output, hk.size, fun i hi => hk.block i (Nat.lt_of_lt_of_le hi h.old.size) (fun x => by have := h1 i x; omega)⟩, h.rdr.kp hk h2, h.ge, h.le, h.sz⟩

theorem info8 : (Tryz.prog.info? 5).map (fun i => (i.zero, i.size, i.bytes)) = some (some (.int .u8 0), 1, 1) := by kernel_rfl

/-- string(out), out a row of bytes of the call's own. -/
theorem own_string {B n : Nat} {v : Value} {o : List UInt8} (h : w.ownsRow B 5 1 v n (Lib.byteCells o)) : (convert 95 9 v).run Tryz.prog w = .ok (.string ⟨o.toArray⟩) w := by
  obtain ⟨h1, h2⟩ := h
  have hn : o.length = n := by simpa [Lib.byteCells] using h1
  rcases h2 with ⟨rfl, rfl⟩ | ⟨g, cap, cur, rfl, hg, hh, r1, r2, r3, r4⟩
  · have : o = [] := List.eq_nil_of_length_eq_zero hn
    subst this
    rw [run_convert_bytes_string w 95 9 5 none 0 0 Tryz.underlying95 Tryz.underlying5 Tryz.underlying9]
    simp [Conv.bytesToString]
    rfl
  · subst hn
    refine run_convert_bytes_back w 95 9 5 ⟨g, 0, none⟩ cap o Tryz.underlying95 Tryz.underlying5 Tryz.underlying9 ?_
    intro j hj
    have e : cur[j]? = some (Value.int .u8 (o[j].toNat : Int)) := by
      have : (cur.toList.take (o.length * 1))[j]? = (Lib.byteCells o)[j]? := by rw [r4]
      rw [List.getElem?_take_of_lt (by omega)] at this
      simpa [Lib.byteCells, hj] using this
    have ea : (⟨g, 0, none⟩ : Addr).add j = ⟨g, j, none⟩ := by
      unfold Addr.add
      by_cases h0 : j = 0 <;> simp [h0]
    rw [ea]
    simp [World.cell?, hh, e]

theorem pStr_step {l : List UInt8} {c : UInt8} {t o r : List UInt8} (h : l = c :: t) (hc : c ≠ 34) (hh : ch false c t = some (o, r)) : pStr false l = (pStr false r).map fun x => (o ++ x.1, x.2) := by
  subst h; rw [pStr_cons, if_neg hc, hh]
theorem pStr_bad {l : List UInt8} {c : UInt8} {t : List UInt8} (h : l = c :: t) (hc : c ≠ 34) (hh : ch false c t = none) : pStr false l = none := by
  subst h; rw [pStr_cons, if_neg hc, hh]
theorem enc_eq (x : Nat) (hx : okR x) : encL x = Lib.encodeRune (x : Int) := by
  unfold Lib.encodeRune
  have hx' := hx
  unfold okR at hx'
  rcases encL_cases x hx with ⟨h1, e⟩ | ⟨h1, h2, e⟩ | ⟨h1, h2, e⟩ | ⟨h1, e⟩ <;> rw [e]
  · rw [Lib.encodeRuneZ_one (by omega) (by omega)]
    simp
  · rw [Lib.encodeRuneZ_two (by omega) (by omega)]
    simp only [List.map_cons, List.map_nil]
    repeat' (first | rfl | omega | congr 1)
  · rw [Lib.encodeRuneZ_three (by omega)]
    simp only [List.map_cons, List.map_nil]
    repeat' (first | rfl | omega | congr 1)
  · rw [Lib.encodeRuneZ_four (by omega) (by omega)]
    simp only [List.map_cons, List.map_nil]
    repeat' (first | rfl | omega | congr 1)
theorem byteCells_app (a b : List UInt8) : Lib.byteCells (a ++ b) = Lib.byteCells a ++ Lib.byteCells b := by simp [Lib.byteCells]
theorem byteCells_len (a : List UInt8) : (Lib.byteCells a).length = a.length := by simp [Lib.byteCells]

set_option maxRecDepth 8000 in
/-- Behind the opening quote. -/
theorem quoted_c (W : World) (rb : Nat) (s : ByteArray) (k d : Nat) (w : World) (hr : St W w rb s k d) (t0 : List UInt8) (hl : rest s k = 34 :: t0) :
    Calls Tryz.prog 162 #[.pointer (some ⟨rb, 0, none⟩)] w fun e w' =>
      Res W rb s d w (pStr false t0) (fun _ o v => v = .string ⟨o.toArray⟩ ∧ o.length ≤ 2400) e w' := by
  have hsz := hr.sz
  obtain ⟨g1, g2, g3, g4⟩ := nxt_cons hl
  have H := hide (And.intro g2 g3)
  clear hl g2 g3 g4
  obtain ⟨i0, hi, hz0, hz1, hz2⟩ := info_parts info8
  go_enter Tryz.func162, Tryz.ntmps162
  go_wp2_with fail
  refine (next_o W rb s k d _ hr 34 H.out.1).mono ?_
  rintro e w1 ⟨rfl, h1, h2⟩
  obtain ⟨c0, c1, c2, f1, f2, hb⟩ := h1.rdr.facts
  have hrw : rb < w.heap.size := hr.rdr.facts.2.2.2.2.2
  go_wp2_with fail
  go_loopg [3] (s.size - (k + 1)) (fun g v wr => ∃ (k' : Nat) (o : List UInt8), g = s.size - k' ∧ k < k' ∧ o.length ≤ 4 * k' ∧ St W wr rb s k' d ∧ Kp (· = rb) w wr ∧ wr.ownsRow w.heap.size 5 1 v o.length (Lib.byteCells o) ∧ pStr false t0 = (pStr false (rest s k')).map fun x => (o ++ x.1, x.2))
  case atStart =>
    refine ⟨k + 1, [], rfl, by omega, by simp, h1.at (k + 1) g1, Kp.setCell (p := ⟨rb, 1, none⟩) h2 (fun _ => rfl) _, World.ownsRow_nil _ _ _ _, ?_⟩
    rw [H.out.2]
    cases pStr false t0 <;> simp
  case round =>
    obtain ⟨k', o, hg, hkk, hol, q1, q2, q3, q4⟩ := hrel
    have Q := hide (And.intro hg q4)
    clear hg q4
    have hle := q1.le
    clear c0 c1 c2 f1 f2 hb
    generalize hl : rest s k' = l
    rcases l with _ | ⟨c, t⟩
    · have hk := rest_end hl hle
      have e := Q.out.2
      rw [hl, pStr_nil] at e
      have E : Hid (pStr false t0 = none) := e
      clear hl e
      go_wp2_with fail
      refine (pop_none W rb s k' d _ q1 hk).mono ?_
      rintro e w2 ⟨p1, p2⟩
      obtain ⟨fb, k3, g, cb, rfl, q⟩ := p2
      exact ⟨rfl, res_none E.out ⟨q2.trans p1, fb, k3, g, cb, rfl, Nat.le_trans q2.size q.1, q.2⟩⟩
    obtain ⟨a1, a2, a3, a4⟩ := nxt_cons hl
    have A := hide (And.intro hl (And.intro a3 (a4 a1)))
    clear hl a2 a3 a4
    have hc256 : c.toNat < 256 := c.toNat_lt
    go_wp2_with fail
    refine (pop_some W rb s k' d _ q1 a1).mono ?_
    rintro e w2 ⟨rfl, p1, p2⟩
    rw [A.out.2.2]
    have own2 : w2.ownsRow w.heap.size 5 1 u3 o.length (Lib.byteCells o) := by
      refine ownsRow_kp q3 p2 ?_
      intro k hk e
      have := (q3.lt k hk).1
      omega
    replace p2 := q2.trans p2
    clear q1 q2 q3
    by_cases h34 : c = 34
    · subst h34
      have hconv := own_string own2
      go_wp2
      go_ret
      refine res_some (x := o) (r := t) ?_ p2 ⟨rfl, by omega⟩ p1 A.out.2.1
      rw [Q.out.2, A.out.1, pStr_cons, if_pos rfl]
      simp
    have n34 : ((c.toNat : Int) == 34) = false := u8n h34
    have N34 := hide h34
    clear h34
    by_cases h92 : c = 92
    · subst h92
      go_wp2_with fail
      refine (escape_c W rb s (k' + 1) d _ p1).mono ?_
      rintro e w3 ⟨v1, v2⟩
      rw [A.out.2.1] at v2
      cases hy : esc t with
      | none =>
        rw [hy] at v2
        obtain ⟨fb, k3, g, cb, rfl, q⟩ := v2
        refine ⟨rfl, res_none ?_ ⟨p2.trans v1, fb, k3, g, cb, rfl, Nat.le_trans p2.size q.1, q.2⟩⟩
        rw [Q.out.2, pStr_bad A.out.1 N34.out (by simp [ch, hy])]
        rfl
      | some p =>
        obtain ⟨x, r⟩ := p
        rw [hy] at v2
        obtain ⟨_, k3, rfl, rfl, z1, z2⟩ := v2
        have hok := (esc_ok hy).1
        have hlen := esc_len hy
        have hx : (x : Int) ≤ 1114111 := by unfold okR at hok; omega
        have own3 : w3.ownsRow w.heap.size 5 1 u3 o.length (Lib.byteCells o) := by
          refine ownsRow_kp own2 v1 ?_
          intro k hk e
          have := (own2.lt k hk).1
          omega
        have Y := hide (And.intro hy (And.intro z2 hok))
        clear hy z2 hok
        have hk3 : k' + 1 < k3 := by
          have e1 : (rest s k3).length = s.size - k3 := by simp [rest]
          have e2 : t.length = s.size - (k' + 1) := by rw [← A.out.2.1]; simp [rest]
          rw [Y.out.2.1] at e1
          have := z1.le
          omega
        go_wp2_with fail
        refine (Tryz.utf8_AppendRune_plain w.heap.size u3 o.length (Lib.byteCells o) x (by omega) (by omega) _ own3 (by omega) (p2.trans v1).size).mono ?_
        rintro e w4 ⟨v', rfl, y1, ob, y2⟩
        have K4 : Kp (· = rb) w w4 := ((p2.trans v1).alloc ob).grown y2 (fun k hk hlt => by have := (own3.lt k hk).1; omega)
        have S4 : St W w4 rb s k3 d := (z1.keep (S := fun _ => False) ((Kp.refl _ _).alloc ob) (by simp) (by simp)).keep (S := fun k => u3.ownBlock = some k) ((Kp.refl _ _).grown y2 (fun k hk _ => hk)) (fun i hi => by have := (own3.lt i hi).1; have := z1.old.size; have := hr.old.size; omega) (fun hi => by have := (own3.lt rb hi).1; omega)
        have e5 : Lib.runeCells (x : Int) = Lib.byteCells (encL x) := by rw [enc_eq x Y.out.2.2, Lib.byteCells_encodeRune]
        have e6 := Lib.runeCells_le (x : Int)
        rw [e5, byteCells_len, ← byteCells_app, ← List.length_append] at y1
        have Y1 := hide y1
        have hl4 : (encL x).length ≤ 4 := by rw [e5, byteCells_len] at e6; omega
        clear y1 e5 e6 y2 own3 own2
        go_wp2
        go_roundg (s.size - k3)
        case measure => rw [Q.out.1]; omega
        case rel =>
          refine ⟨k3, o ++ encL x, rfl, by omega, by rw [List.length_append]; omega, S4, K4, Y1.out, ?_⟩
          have hch : ch false 92 t = some (encL x, r) := by simp [ch, Y.out.1, encL]
          rw [Q.out.2, pStr_step A.out.1 N34.out hch, Y.out.2.1]
          cases pStr false r <;> simp
    have n92 : ((c.toNat : Int) == 92) = false := u8n h92
    have N92 := hide h92
    clear h92
    by_cases h32 : (c.toNat : Int) < 32
    · obtain ⟨cb, hg, he⟩ := p1.err 20 (by decide) (by decide)
      go_wp2_with (go_at_call 132; refine (fault_c rb s (k' + 1) d _ p1.rdr _ _).mono ?_; rintro e w' ⟨rfl, rfl⟩)
      refine ⟨rfl, res_none ?_ (thrown_new p2 he)⟩
      rw [Q.out.2, pStr_bad A.out.1 N34.out (by simp [ch, UInt8.lt_iff_toNat_lt]; omega)]
      rfl
    · have h32' : 32 ≤ (c.toNat : Int) := by omega
      clear h32
      go_wp2_with (at_builtin; refine wpList_append_own _ rfl _ _ 95 rfl w.heap.size 5 i0 (.int .u8 0) 1 1 Tryz.underlying95 hi hz0 hz1 hz2 rfl (by decide) _ _ _ rfl (own2.alloc _) ⟨w2.heap.size, 0, none⟩ 1 1 [.int .u8 c.toNat] rfl rfl ?c1 ?c2 ?c3 ?c4 ?c5 ?_)
      case c1 =>
        intro j u hj
        match j, hj with
        | 0, hj => simp at hj; subst hj; simp [Addr.add]
      case c2 => intro u hu; simp at hu; subst hu; rfl
      case c3 => unfold maxLen; omega
      case c4 => omega
      case c5 => have := p2.size; simp; omega
      intro v' w3 y1 y2 _
      have K3 : Kp (· = rb) w w3 := (p2.alloc _).grown y2 (fun k hk hlt => by have := (own2.lt k hk).1; omega)
      have S3 : St W w3 rb s (k' + 1) d := (p1.keep (S := fun _ => False) ((Kp.refl _ _).alloc _) (by simp) (by simp)).keep (S := fun k => u3.ownBlock = some k) ((Kp.refl _ _).grown y2 (fun k hk _ => hk)) (fun i hi => by have := (own2.lt i hi).1; have := hr.old.size; omega) (fun hi => by have := (own2.lt rb hi).1; omega)
      have e5 : [Value.int .u8 (c.toNat : Int)] = Lib.byteCells [c] := rfl
      rw [e5, ← byteCells_app] at y1
      have Y1 : Hid (w3.ownsRow w.heap.size 5 1 v' (o ++ [c]).length (Lib.byteCells (o ++ [c]))) := by rw [List.length_append]; exact y1
      clear y1 e5 y2 own2
      go_wp2
      go_roundg (s.size - (k' + 1))
      case measure => rw [Q.out.1]; omega
      case rel =>
        refine ⟨k' + 1, o ++ [c], rfl, by omega, by rw [List.length_append]; simp; omega, S3, K3, Y1.out, ?_⟩
        have hch : ch false c t = some ([c], t) := by
          unfold ch
          rw [if_neg (by rw [UInt8.lt_iff_toNat_lt]; show ¬ c.toNat < 32; omega), if_neg N92.out]
          rfl
        rw [Q.out.2, pStr_step A.out.1 N34.out hch, A.out.2.1]
        cases pStr false t <;> simp

theorem quoted_bad (W : World) (rb : Nat) (s : ByteArray) (k d : Nat) (w : World) (hr : St W w rb s k d) (hl : (rest s k).head? ≠ some 34) :
    Calls Tryz.prog 162 #[.pointer (some ⟨rb, 0, none⟩)] w fun e w' => Kp (· = rb) w w' ∧ Thrown W w w' e := by
  generalize hc : nxt (rest s k) = c
  have hne : c ≠ 34 := by
    subst hc
    generalize rest s k = l at hl
    cases l with
    | nil => simp [nxt]
    | cons a l => simpa [nxt] using hl
  have n34 : ((c.toNat : Int) != 34) = true := by
    have := u8n hne
    simp only [bne, Bool.not_eq_true']
    exact this
  have HC := hide hc
  clear hc hne hl
  go_enter Tryz.func162, Tryz.ntmps162
  go_wp2_with fail
  refine (next_o W rb s k d _ hr c HC.out).mono ?_
  rintro e w1 ⟨rfl, h1, h2⟩
  obtain ⟨cb, hg, he⟩ := h1.err 19 (by decide) (by decide)
  go_wp2_with (go_at_call 132; refine (fault_c rb s k d _ h1.rdr _ _).mono ?_; rintro e w' ⟨rfl, rfl⟩)
  exact ⟨rfl, thrown_new h2 he⟩
end Go.Proofs.YtocligpfmfmihabGreatDoor
namespace Go.Proofs.YtocligpfmfmihabGreatDoor
open Go.Lib

def Shr {σ : Type} (p : σ → Bs → Option (σ × Bs)) : Prop := ∀ a s b r, p a s = some (b, r) → r.length ≤ s.length

theorem drop_le (p : UInt8 → Bool) (s : Bs) : (s.dropWhile p).length ≤ s.length := (List.dropWhile_suffix _).length_le
theorem pNat_le {s r : Bs} {n : Nat} (h : pNat s = some (n, r)) : r.length ≤ s.length := by
  unfold pNat at h
  split at h
  · simp only [Option.some.injEq, Prod.mk.injEq] at h
    obtain ⟨_, rfl⟩ := h
    exact drop_le _ _
  · cases h
theorem pNum_le {s r : Bs} {n : Int} (h : pNum s = some (n, r)) : r.length ≤ s.length := by
  unfold pNum at h
  split at h
  · cases h
  · split at h
    · split at h
      · rename_i hn
        have := pNat_le hn
        split at h
        · cases h
        · simp only [Option.some.injEq, Prod.mk.injEq] at h
          obtain ⟨_, rfl⟩ := h
          simp only [List.length_cons]; omega
      · cases h
    · simp only [Option.map_eq_some_iff, Prod.mk.injEq] at h
      obtain ⟨⟨x, y⟩, hn, _, rfl⟩ := h
      exact pNat_le hn
theorem pWord_le {s r : Bs} {j : J} (h : pWord s = some (j, r)) : r.length ≤ s.length := by
  unfold pWord at h
  repeat' split at h
  all_goals first
    | (cases h; done)
    | (simp only [Option.some.injEq, Prod.mk.injEq] at h; obtain ⟨_, rfl⟩ := h; simp only [List.length_drop]; omega)
theorem pSca_le {u : Bool} {c : UInt8} {t r : Bs} {j : J} (h : pSca u c t = some (j, r)) : r.length ≤ (c :: t).length := by
  unfold pSca at h
  split at h
  · simp only [Option.map_eq_some_iff, Prod.mk.injEq] at h
    obtain ⟨⟨x, y⟩, hn, _, rfl⟩ := h
    have := pStr_len t.length (Nat.le_refl _) hn
    simp only [List.length_cons]; omega
  · split at h
    · simp only [Option.map_eq_some_iff, Prod.mk.injEq] at h
      obtain ⟨⟨x, y⟩, hn, _, rfl⟩ := h
      exact pNum_le hn
    · exact pWord_le h
theorem pMore_le {σ : Type} {p : σ → Bs → Option (σ × Bs)} (hp : Shr p) {e : UInt8} : ∀ n a s b r, pMore p e n a s = some (b, r) → r.length ≤ s.length := by
  intro n
  induction n with
  | zero => intro a s b r h; simp [pMore] at h
  | succ n ih =>
    intro a s b r h
    have hs := sk_len s
    unfold pMore at h
    split at h
    · cases h
    · rename_i c t hc
      rw [hc] at hs
      simp only [List.length_cons] at hs
      split at h
      · split at h
        · rename_i b' r' hb
          have := hp _ _ _ _ hb
          have := ih _ _ _ _ h
          omega
        · cases h
      · split at h
        · simp only [Option.some.injEq, Prod.mk.injEq] at h
          obtain ⟨_, rfl⟩ := h
          omega
        · cases h
theorem pSev_le {σ : Type} {p : σ → Bs → Option (σ × Bs)} (hp : Shr p) {e : UInt8} {a b : σ} {s r : Bs} (h : pSev p e a s = some (b, r)) : r.length ≤ s.length := by
  have hs := sk_len s
  unfold pSev at h
  split at h
  · simp only [Option.some.injEq, Prod.mk.injEq] at h
    obtain ⟨_, rfl⟩ := h
    simp only [List.length_tail]; omega
  · split at h
    · rename_i hb
      have := hp _ _ _ _ hb
      have := pMore_le hp _ _ _ _ _ h
      omega
    · cases h
theorem pEl_shr {pv : Bs → Option (J × Bs)} (hv : ∀ s j r, pv s = some (j, r) → r.length ≤ s.length) : Shr (pEl pv) := by
  intro a s b r h
  unfold pEl at h
  simp only [Option.map_eq_some_iff, Prod.mk.injEq] at h
  obtain ⟨⟨x, y⟩, hn, _, rfl⟩ := h
  exact hv _ _ _ hn
theorem pMem_shr {u : Bool} {pv : Bs → Option (J × Bs)} (hv : ∀ s j r, pv s = some (j, r) → r.length ≤ s.length) : Shr (pMem u pv) := by
  intro a s b r h
  have hs := sk_len s
  unfold pMem at h
  split at h
  · cases h
  · rename_i c t hc
    rw [hc] at hs
    simp only [List.length_cons] at hs
    split at h
    · split at h
      · cases h
      · rename_i k r' hk
        have h1 := pStr_len t.length (Nat.le_refl _) hk
        have h2 := sk_len r'
        split at h
        · cases h
        · split at h
          · cases h
          · rename_i c' q hq
            rw [hq] at h2
            simp only [List.length_cons] at h2
            split at h
            · simp only [Option.map_eq_some_iff, Prod.mk.injEq] at h
              obtain ⟨⟨x, y⟩, hn, _, rfl⟩ := h
              have := hv _ _ _ hn
              show y.length ≤ s.length
              omega
            · cases h
    · cases h
theorem pVal_le {u : Bool} : ∀ (d : Nat) (s : Bs) (j : J) (r : Bs), pVal u d s = some (j, r) → r.length ≤ s.length := by
  intro d
  induction d with
  | zero =>
    intro s j r h
    have hs := sk_len s
    unfold pVal at h
    split at h
    · cases h
    · rename_i c t hc
      rw [hc] at hs
      split at h
      · cases h
      · have := pSca_le h; omega
  | succ d ih =>
    intro s j r h
    have hs := sk_len s
    unfold pVal at h
    split at h
    · cases h
    · rename_i c t hc
      rw [hc] at hs
      simp only [List.length_cons] at hs
      split at h
      · simp only [Option.map_eq_some_iff, Prod.mk.injEq] at h
        obtain ⟨⟨x, y⟩, hn, _, rfl⟩ := h
        have := pSev_le (pMem_shr ih) hn
        show y.length ≤ s.length
        omega
      · split at h
        · simp only [Option.map_eq_some_iff, Prod.mk.injEq] at h
          obtain ⟨⟨x, y⟩, hn, _, rfl⟩ := h
          have := pSev_le (pEl_shr ih) hn
          show y.length ≤ s.length
          omega
        · have := pSca_le h
          simp only [List.length_cons] at this
          omega
end Go.Proofs.YtocligpfmfmihabGreatDoor
namespace Go.Proofs.YtocligpfmfmihabGreatDoor
open Go Go.RowKit

/-- What a part of the reading without a result comes to. -/
def Ser {σ : Type} (W : World) (rb : Nat) (s : ByteArray) (d : Nat) (w0 : World) (o : Option (σ × List UInt8)) (I : σ → World → Prop) (e : Ending) (w' : World) : Prop :=
  Kp (· = rb) w0 w' ∧ match o with
  | some (y, r) => e = .returned (.tuple #[]) ∧ I y w' ∧ ∃ k', St W w' rb s k' d ∧ rest s k' = r
  | none => Thrown W w0 w' e
theorem ser_none {σ : Type} {W : World} {rb : Nat} {s : ByteArray} {d : Nat} {w0 w' : World} {o : Option (σ × List UInt8)} {I : σ → World → Prop} {e : Ending}
    (h : o = none) (hk : Kp (· = rb) w0 w' ∧ Thrown W w0 w' e) : Ser W rb s d w0 o I e w' := by
  subst h; exact hk
theorem ser_some {σ : Type} {W : World} {rb : Nat} {s : ByteArray} {d k' : Nat} {w0 w' : World} {o : Option (σ × List UInt8)} {I : σ → World → Prop} {y : σ} {r : List UInt8}
    (h : o = some (y, r)) (hk : Kp (· = rb) w0 w') (hi : I y w') (hs : St W w' rb s k' d) (hr : rest s k' = r) : Ser W rb s d w0 o I (.returned (.tuple #[])) w' := by
  subst h; exact ⟨hk, rfl, hi, k', hs, hr⟩

/-- What is asked of the function that reads one. -/
structure One {σ : Type} (W : World) (rb : Nat) (s : ByteArray) (d : Nat) (w0 : World) (p : σ → List UInt8 → Option (σ × List UInt8)) (I : σ → World → Prop) (m : σ → Nat) (f : FuncId) (a b : Value) : Prop where
  keep : ∀ x w1 w2, I x w1 → Kp (· = rb) w1 w2 → I x w2
  shr : Shr p
  skp : ∀ x l, p x (sk l) = p x l
  ent : ∀ w, (callFunc f #[a, b]).run Tryz.prog w = .ok (.enter f #[a, b]) w
  inc : ∀ x l y r, p x l = some (y, r) → m y ≤ m x + 1
  call : ∀ x w1 k1, m x ≤ 700 → St W w1 rb s k1 d → I x w1 → Kp (· = rb) w0 w1 → Calls Tryz.prog f #[a, b] w1 fun e w2 => Ser W rb s d w0 (p x (rest s k1)) I e w2

set_option maxRecDepth 8000 in
theorem several_c {σ : Type} (W : World) (rb : Nat) (s : ByteArray) (k d : Nat) (w0 w : World) (p : σ → List UInt8 → Option (σ × List UInt8)) (I : σ → World → Prop) (m : σ → Nat) (f : FuncId) (a b : Value)
    (h1 : One W rb s (d + 1) w0 p I m f a b) (hr : St W w rb s k d) (x0 : σ) (hm0 : m x0 = 0) (hI : I x0 w) (hk : Kp (· = rb) w0 w) (hd : d < 6)
    (qb qe : Int) (bb be : UInt8) (hqb : qb = bb.toNat) (hqe : qe = be.toNat) (hb0 : be ≠ 0) (_hb44 : be ≠ 44) (t : List UInt8) (hl : sk (rest s k) = bb :: t) :
    Calls Tryz.prog 178 #[.pointer (some ⟨rb, 0, none⟩), .int .u8 qb, .int .u8 qe, .func (.func f) #[] #[a, b]] w fun e w' =>
      Ser W rb s d w0 (pSev p be x0 t) I e w' := by
  have hsz := hr.sz
  have HQ := hide (And.intro hqb hqe)
  have HL := hide hl
  clear hqb hqe hl
  have hd' : (d : Int) < 6 := by omega
  have hcf := h1.ent
  go_enter Tryz.func178, Tryz.ntmps178
  go_wp2_with fail
  refine (need_yes W rb s k d _ hr qb bb HQ.out.1 t HL.out).mono ?_
  rintro e w1 ⟨rfl, a1, k1, a2, a3⟩
  have A3 := hide a3
  clear a3
  obtain ⟨c0, c1, c2, f1, f2, hb⟩ := a2.rdr.facts
  have K1 := hk.trans a1
  have I1 := h1.keep _ _ _ hI a1
  have S2 := a2.dep (d + 1)
  have K2 : Kp (· = rb) w0 (w1.setCell ⟨rb, 2, none⟩ (.int .i64 ((d + 1 : Nat) : Int))) := Kp.setCell (p := ⟨rb, 2, none⟩) K1 (fun _ => rfl) _
  have I2 := h1.keep _ _ _ I1 (Kp.setCell (p := ⟨rb, 2, none⟩) (Kp.refl (· = rb) w1) (fun _ => rfl) (.int .i64 ((d + 1 : Nat) : Int)))
  have fin : ∀ (y : σ) (w9 : World) (k9 : Nat), St W w9 rb s k9 (d + 1) → I y w9 → Kp (· = rb) w0 w9 → St W (w9.setCell ⟨rb, 2, none⟩ (.int .i64 d)) rb s k9 d ∧ I y (w9.setCell ⟨rb, 2, none⟩ (.int .i64 d)) ∧ Kp (· = rb) w0 (w9.setCell ⟨rb, 2, none⟩ (.int .i64 d)) :=
    fun y w9 k9 b1 b2 b3 => ⟨b1.dep d, h1.keep _ _ _ b2 (Kp.setCell (p := ⟨rb, 2, none⟩) (Kp.refl (· = rb) w9) (fun _ => rfl) _), Kp.setCell (p := ⟨rb, 2, none⟩) b3 (fun _ => rfl) _⟩
  have FIN := hide fin
  clear fin K1 I1
  have C1 : Hid (One W rb s (d + 1) w0 p I m f a b) := h1
  have M0 := hide hm0
  clear hm0
  clear h1
  by_cases he : (sk t).head? = some be
  · obtain ⟨t', ht'⟩ : ∃ t', sk t = be :: t' := by
      cases hst : sk t with
      | nil => rw [hst] at he; cases he
      | cons c q =>
        rw [hst] at he
        simp only [List.head?_cons, Option.some.injEq] at he
        exact ⟨q, by rw [he]⟩
    have T := hide (And.intro he ht')
    clear he ht'
    go_wp2_with fail
    refine (take_yes W rb s k1 (d + 1) _ S2 qe be HQ.out.2 t' (by rw [A3.out]; exact T.out.2)).mono ?_
    rintro e w3 ⟨rfl, b1, k3, b2, b3⟩
    have B3 := hide b3
    clear b3 c0 c1 c2 f1 f2 hb
    obtain ⟨c0, c1, c2, f1, f2, hb⟩ := b2.rdr.facts
    have I3 := C1.out.keep _ _ _ I2 b1
    have F := FIN.out _ _ _ b2 I3 (K2.trans b1)
    clear I3
    go_wp2
    go_end0
    refine ser_some ?_ F.2.2 F.2.1 F.1 B3.out
    rw [pSev, if_pos T.out.1, T.out.2]
    rfl
  · have T := hide he
    clear he
    go_wp2_with fail
    refine (take_no W rb s k1 (d + 1) _ S2 qe be HQ.out.2 hb0 (by rw [A3.out]; exact T.out)).mono ?_
    rintro e w3 ⟨rfl, b1, k3, b2, b3⟩
    have B3 : Hid (rest s k3 = sk t) := by rw [A3.out] at b3; exact b3
    clear b3 c0 c1 c2 f1 f2 hb
    have I3 := C1.out.keep _ _ _ I2 b1
    have K3 := K2.trans b1
    clear I2 K2
    go_wp2_with fail
    refine (C1.out.call _ _ _ (by rw [M0.out]; omega) b2 I3 K3).mono ?_
    rintro e w4 ⟨d1, d2⟩
    rw [B3.out, C1.out.skp] at d2
    cases hp : p x0 t with
    | none =>
      rw [hp] at d2
      obtain ⟨fb, k9, g, cb, rfl, q⟩ := d2
      refine ⟨rfl, ser_none ?_ ⟨d1, fb, k9, g, cb, rfl, q⟩⟩
      rw [pSev, if_neg T.out, hp]
    | some z =>
      obtain ⟨y, r⟩ := z
      rw [hp] at d2
      obtain ⟨rfl, I4, k4, S4, d3⟩ := d2
      have hs : pSev p be x0 t = pMore p be (r.length + 1) y r := by rw [pSev, if_neg T.out, hp]
      have hm1 : m y + (r.length + 1) ≤ 602 := by
        have e1 := C1.out.inc _ _ _ _ hp
        have e2 := C1.out.shr _ _ _ _ hp
        have e3 : t.length ≤ s.size := by rw [← A3.out]; simp [rest]
        rw [M0.out] at e1
        omega
      have D := hide (And.intro d3 (And.intro hs hm1))
      clear d3 hs hm1 hp I3 K3
      go_wp2_with fail
      go_loopg [] (r.length + 1) (fun n wr => ∃ (x : σ) (k' : Nat), St W wr rb s k' (d + 1) ∧ I x wr ∧ Kp (· = rb) w0 wr ∧ (rest s k').length < n ∧ m x + n ≤ 602 ∧ pMore p be n x (rest s k') = pSev p be x0 t)
      case atStart => exact ⟨y, k4, S4, I4, d1, by rw [D.out.1]; omega, D.out.2.2, by rw [D.out.1, D.out.2.1]⟩
      case round =>
        clear S4 I4 d1
        obtain ⟨x, k', q1, q2, q3, q4, q6, q5⟩ := hrel
        obtain ⟨n, rfl⟩ : ∃ n, gk = n + 1 := ⟨gk - 1, by omega⟩
        have Q := hide (And.intro q4 q5)
        have M := hide q6
        clear q4 q5 q6
        by_cases hc : (sk (rest s k')).head? = some 44
        · obtain ⟨q, hq⟩ : ∃ q, sk (rest s k') = 44 :: q := by
            cases hst : sk (rest s k') with
            | nil => rw [hst] at hc; cases hc
            | cons c q =>
              rw [hst] at hc
              simp only [List.head?_cons, Option.some.injEq] at hc
              exact ⟨q, by rw [hc]⟩
          have HQQ := hide hq
          clear hc hq
          go_wp2_with fail
          refine (take_yes W rb s k' (d + 1) _ q1 44 44 rfl q HQQ.out).mono ?_
          rintro e w5 ⟨rfl, e1, k5, e2, e3⟩
          have E3 := hide e3
          clear e3
          have I5 := C1.out.keep _ _ _ q2 e1
          have K5 := q3.trans e1
          go_wp2_with fail
          refine (C1.out.call _ _ _ (by have := M.out; omega) e2 I5 K5).mono ?_
          rintro e w6 ⟨g1, g2⟩
          rw [E3.out] at g2
          have hm : pMore p be (n + 1) x (rest s k') = match p x q with | some (b, r) => pMore p be n b r | none => none := by
            rw [pMore, HQQ.out]; rfl
          cases hp : p x q with
          | none =>
            rw [hp] at g2 hm
            obtain ⟨fb, k9, g, cb, rfl, q⟩ := g2
            exact ⟨rfl, ser_none (Q.out.2.symm.trans hm) ⟨g1, fb, k9, g, cb, rfl, q⟩⟩
          | some z =>
            obtain ⟨y', r'⟩ := z
            rw [hp] at g2 hm
            obtain ⟨rfl, I6, k6, S6, g3⟩ := g2
            have hr1 := C1.out.shr _ _ _ _ hp
            have hr2 := sk_len (rest s k')
            rw [HQQ.out] at hr2
            simp only [List.length_cons] at hr2
            have hm2 := C1.out.inc _ _ _ _ hp
            have G := hide (And.intro g3 (And.intro hm (And.intro hr1 (And.intro hr2 hm2))))
            clear g3 hm hr1 hr2 hm2 hp
            go_wp2
            go_roundg n
            case measure => omega
            case rel =>
              refine ⟨y', k6, S6, I6, g1, ?_, ?_, ?_⟩
              · have := G.out
                have := Q.out.1
                rw [G.out.1]; omega
              · have := G.out.2.2.2.2
                have := M.out
                omega
              · rw [G.out.1, ← Q.out.2, G.out.2.1]
        · have HC := hide hc
          clear hc
          go_wp2_with fail
          refine (take_no W rb s k' (d + 1) _ q1 44 44 rfl (by decide) HC.out).mono ?_
          rintro e w5 ⟨rfl, e1, k5, e2, e3⟩
          have E3 := hide e3
          clear e3
          have I5 := C1.out.keep _ _ _ q2 e1
          have K5 := q3.trans e1
          by_cases hb : (sk (rest s k')).head? = some be
          · obtain ⟨q, hq⟩ : ∃ q, sk (rest s k') = be :: q := by
              cases hst : sk (rest s k') with
              | nil => rw [hst] at hb; cases hb
              | cons c q =>
                rw [hst] at hb
                simp only [List.head?_cons, Option.some.injEq] at hb
                exact ⟨q, by rw [hb]⟩
            have HQQ := hide hq
            clear hb hq
            go_wp2_with fail
            refine (need_yes W rb s k5 (d + 1) _ e2 qe be HQ.out.2 q (by rw [E3.out, sk_sk]; exact HQQ.out)).mono ?_
            rintro e w6 ⟨rfl, j1, k6, j2, j3⟩
            have J3 := hide j3
            clear j3
            obtain ⟨c0, c1, c2, f1, f2, hb⟩ := j2.rdr.facts
            have F := FIN.out _ _ _ j2 (C1.out.keep _ _ _ I5 j1) (K5.trans j1)
            go_wp2
            go_end0
            refine ser_some ?_ F.2.2 F.2.1 F.1 J3.out
            have h1 := HC.out
            rw [HQQ.out] at h1
            simp only [List.head?_cons, Option.some.injEq] at h1
            rw [← Q.out.2, pMore, HQQ.out]
            simp [h1]
          · have HB := hide hb
            clear hb
            go_wp2_with fail
            refine (need_no W rb s k5 (d + 1) _ e2 qe be HQ.out.2 hb0 (by rw [E3.out, sk_sk]; exact HB.out)).mono ?_
            rintro e w6 ⟨j1, j2⟩
            obtain ⟨fb, k9, g, cb, rfl, q⟩ := j2
            refine ⟨rfl, ser_none ?_ ⟨K5.trans j1, fb, k9, g, cb, rfl, Nat.le_trans K5.size q.1, q.2⟩⟩
            rw [← Q.out.2, pMore]
            cases hst : sk (rest s k') with
            | nil => rfl
            | cons c q =>
              have h1 := HC.out
              have h2 := HB.out
              rw [hst] at h1 h2
              simp only [List.head?_cons, Option.some.injEq] at h1 h2
              simp [h1, h2]

theorem several_deep (W : World) (rb : Nat) (s : ByteArray) (k : Nat) (w : World) (hr : St W w rb s k 6) (fv : Value)
    (qb qe : Int) (bb : UInt8) (hqb : qb = bb.toNat) (t : List UInt8) (hl : sk (rest s k) = bb :: t) :
    Calls Tryz.prog 178 #[.pointer (some ⟨rb, 0, none⟩), .int .u8 qb, .int .u8 qe, fv] w fun e w' => Kp (· = rb) w w' ∧ Thrown W w w' e := by
  have hsz := hr.sz
  have HQ := hide hqb
  have HL := hide hl
  clear hqb hl
  go_enter Tryz.func178, Tryz.ntmps178
  go_wp2_with fail
  refine (need_yes W rb s k 6 _ hr qb bb HQ.out t HL.out).mono ?_
  rintro e w1 ⟨rfl, a1, k1, a2, a3⟩
  have A3 := hide a3
  clear a3
  obtain ⟨c0, c1, c2, f1, f2, hb⟩ := a2.rdr.facts
  have S2 := a2.dep 7
  obtain ⟨cb, hg, he⟩ := a2.err 25 (by decide) (by decide)
  have K2 : Kp (· = rb) w (w1.setCell ⟨rb, 2, none⟩ (.int .i64 7)) := Kp.setCell (p := ⟨rb, 2, none⟩) a1 (fun _ => rfl) _
  go_wp2_with (go_at_call 132; refine (fault_c rb s k1 7 _ S2.rdr _ _).mono ?_; rintro e w' ⟨rfl, rfl⟩)
  have hz : (w1.setCell ⟨rb, 2, none⟩ (.int .i64 7)).heap.size = w1.heap.size := by simp [World.setCell]
  have h9 := thrown_new (k := (k1 : Int)) K2 he
  rw [hz] at h9
  exact ⟨rfl, h9⟩
end Go.Proofs.YtocligpfmfmihabGreatDoor

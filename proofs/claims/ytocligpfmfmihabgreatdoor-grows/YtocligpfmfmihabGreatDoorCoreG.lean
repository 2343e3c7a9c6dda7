import Derived.Test.YtocligpfmfmihabGreatDoorSize
import Derived.Test.YtocligpfmfmihabGreatDoorRd3G
import Derived.Test.YtocligpfmfmihabGreatDoorShelf
import Derived.Laws.IdiomStrings
import Derived.Lib.RuneBytes
import Derived.OwnWalk
namespace Go.Proofs.YtocligpfmfmihabGreatDoor
open Go.Lib

def kSig : Bs := [115, 105, 103, 110, 97, 116, 117, 114, 101, 115]
def kUns : Bs := [117, 110, 115, 105, 103, 110, 101, 100]
/-- The value of a text, or an error's number. -/
def valueF (s : Bs) : Except Nat J := if 600 < s.length then .error 1 else match parse s with | none => .error 2 | some j => .ok j
def objectF (s : Bs) : Except Nat (List (Bs × J)) := match valueF s with | .error e => .error e | .ok (.obj l) => .ok l | .ok _ => .error 3
def bareL (l : List (Bs × J)) : List (Bs × J) := delK kUns (delK kSig l)
def bareF (l : List (Bs × J)) : Bs := cJ (.obj (bareL l))
def childF (k : Bs) (l : List (Bs × J)) : List (Bs × J) := match lookK k l with | some (.obj m) => m | _ => []
def signL (l : List (Bs × J)) (sv id sig : Bs) : List (Bs × J) :=
  insK kSig (.obj (insK sv (.obj (insK id (.str sig) (childF sv (childF kSig l)))) (childF kSig l))) l
/-- What a call answers: a text and an error's number. -/
def ansF (r : Except Nat Bs) : Bs × Nat := match r with | .error e => ([], e) | .ok s => (s, 0)
def messageF (s : Bs) : Bs × Nat := ansF ((objectF s).map bareF)
def signedE (s sv id sig : Bs) : Except Nat Bs :=
  match objectF s with
  | .error e => .error e
  | .ok l => if validD sv && validD id && validD sig then .ok (cJ (.obj (signL l sv id sig))) else .error 2
def signedF (s sv id sig : Bs) : Bs × Nat := ansF (signedE s sv id sig)

/-! ### sorted lists -/
theorem mem_delK {α : Type} {k : Bs} {l : List (Bs × α)} {p : Bs × α} : p ∈ delK k l ↔ p ∈ l ∧ p.1 ≠ k := by simp [delK]
theorem srt_delK {α : Type} (k : Bs) (l : List (Bs × α)) (h : Srt l) : Srt (delK k l) := List.Pairwise.filter _ h
theorem delK_insK {α : Type} (k : Bs) (v : α) (l : List (Bs × α)) : delK k (insK k v l) = delK k l := by
  induction l with
  | nil => simp [insK, delK]
  | cons q l ih =>
    obtain ⟨a, x⟩ := q
    rw [insK]
    split
    · simp [delK]
    · split
      · rename_i e; subst e; simp [delK]
      · rename_i hne
        simp only [delK] at ih ⊢
        simp [hne, ih]
theorem WF_delK (d : Nat) (k : Bs) (l : List (Bs × J)) (h : WF (d + 1) (.obj l)) : WF (d + 1) (.obj (delK k l)) := by
  simp only [WF, WFm_iff] at h ⊢
  exact ⟨srt_delK k l h.1, fun p hp => h.2 p (mem_delK.1 hp).1⟩
theorem WF_insK (d : Nat) (k : Bs) (v : J) (l : List (Bs × J)) (hk : validD k = true) (hv : WF d v) (h : WF (d + 1) (.obj l)) : WF (d + 1) (.obj (insK k v l)) := by
  simp only [WF, WFm_iff] at h ⊢
  refine ⟨srt_insK k v l h.1, fun p hp => ?_⟩
  rcases mem_insK hp with rfl | hp
  · exact ⟨hk, hv⟩
  · exact h.2 p hp
theorem lookK_mem {α : Type} {k : Bs} {l : List (Bs × α)} {v : α} (h : lookK k l = some v) : (k, v) ∈ l := by
  induction l with
  | nil => simp [lookK] at h
  | cons q l ih =>
    obtain ⟨a, x⟩ := q
    by_cases e : a = k
    · simp [lookK, e] at h; subst h; simp [e]
    · simp [lookK, e] at h; simp [ih h]
theorem WF_child (d : Nat) (k : Bs) (l : List (Bs × J)) (h : WF (d + 2) (.obj l)) : WF (d + 1) (.obj (childF k l)) := by
  unfold childF
  split
  · rename_i m hm
    simp only [WF, WFm_iff] at h
    exact (h.2 _ (lookK_mem hm)).2
  · simp [WF, WFm, Srt]
theorem WF_signL (l : List (Bs × J)) (sv id sig : Bs) (h : WF 6 (.obj l)) (h1 : validD sv = true) (h2 : validD id = true) (h3 : validD sig = true) : WF 6 (.obj (signL l sv id sig)) := by
  have c1 := WF_child 4 kSig l h
  have c2 := WF_child 3 sv _ c1
  have a : WF 4 (.obj (insK id (.str sig) (childF sv (childF kSig l)))) := WF_insK 3 id _ _ h2 (by simpa [WF] using h3) c2
  have b : WF 5 (.obj (insK sv (.obj (insK id (.str sig) (childF sv (childF kSig l)))) (childF kSig l))) := WF_insK 4 sv _ _ h1 a c1
  exact WF_insK 5 kSig _ l (by decide) b h

/-! ### Fixed -/
theorem valueF_cJ (j : J) (h : WF 6 j) (hl : (cJ j).length ≤ 600) : valueF (cJ j) = .ok j := by
  unfold valueF
  rw [if_neg (by omega), parse_cJ j h]
theorem bare_sign (l : List (Bs × J)) (sv id sig : Bs) : bareF (signL l sv id sig) = bareF l := by
  unfold bareF bareL signL
  rw [delK_insK]
theorem objectF_obj (l : List (Bs × J)) (h : WF 6 (.obj l)) (hl : (cJ (.obj l)).length ≤ 600) : objectF (cJ (.obj l)) = .ok l := by
  unfold objectF; rw [valueF_cJ _ h hl]

/-! ### what follows a value does not turn it -/
/-! ### depth -/
end Go.Proofs.YtocligpfmfmihabGreatDoor
namespace Go.Proofs.YtocligpfmfmihabGreatDoor
open Go Go.RowKit

variable {S : Nat → Prop} {w w' : World}

theorem ownsRow_kp {B : Nat} {e : TypeId} {sz n : Nat} {v : Value} {xs : List Value} (h : w.ownsRow B e sz v n xs) (hk : Kp S w w') (hS : ∀ k, v.ownBlock = some k → ¬ S k) : w'.ownsRow B e sz v n xs := by
  obtain ⟨h1, h2⟩ := h
  refine ⟨h1, ?_⟩
  rcases h2 with h2 | ⟨g, cap, cur, rfl, hg, hh, r⟩
  · exact Or.inl h2
  · have hb : g < w.heap.size := by
      rcases Nat.lt_or_ge g w.heap.size with h' | h'
      · exact h'
      · rw [Array.getElem?_eq_none h'] at hh; cases hh
    exact Or.inr ⟨g, cap, cur, rfl, hg, by rw [hk.block g hb (hS g rfl)]; exact hh, r⟩
theorem Kp.grown {a : World} {row : Option Nat} (h : Kp S a w) (hg : w.grownBy w' row) (hrow : ∀ k, row = some k → k < a.heap.size → S k) : Kp S a w' :=
  ⟨hg.os.trans h.os, hg.tape.trans h.tape, hg.output.trans h.output, Nat.le_trans h.size hg.size, fun k hk hs =>
    (hg.block k (Nat.lt_of_lt_of_le hk h.size) (fun e => hs (hrow k e.symm hk))).trans (h.block k hk hs)⟩
theorem Kp.and {a b : World} {T : Nat → Prop} (h : Kp S a b) (k : Kp T b w) (hT : ∀ i, i < a.heap.size → T i → S i) : Kp S a w :=
  ⟨k.os.trans h.os, k.tape.trans h.tape, k.output.trans h.output, Nat.le_trans h.size k.size, fun i hi hs => (k.block i (Nat.lt_of_lt_of_le hi h.size) (fun x => hs (hT i hi x))).trans (h.block i hi hs)⟩
theorem St.keep {W : World} {rb k d : Nat} {s : ByteArray} (h : St W w rb s k d) (hk : Kp S w w') (h1 : ∀ i, S i → W.heap.size ≤ i) (h2 : ¬ S rb) : St W w' rb s k d :=
  ⟨h.glob, h.old.trans ⟨hk.os, hk.tape, hk.output, hk.size, fun i hi => hk.block i (Nat.lt_of_lt_of_le hi h.old.size) (fun x => by have := h1 i x; omega)⟩, h.rdr.kp hk h2, h.ge, h.le, h.sz⟩

theorem info8 : (Tryz.prog.info? 5).map (fun i => (i.zero, i.size, i.bytes)) = some (some (.int .u8 0), 1, 1) := by kernel_rfl

/-- string(out), out a row of bytes of the call's own. -/
theorem own_string {B n : Nat} {v : Value} {o : List UInt8} (h : w.ownsRow B 5 1 v n (Lib.byteCells o)) : (convert 95 9 v).run Tryz.prog w = .ok (.string ⟨o.toArray⟩) w := by
  obtain ⟨h1, h2⟩ := h
  have hn : o.length = n := by simpa [Lib.byteCells] using h1
  rcases h2 with ⟨rfl, rfl⟩ | ⟨g, cap, cur, rfl, hg, hh, r1, r2, r3, r4⟩
  · have : o = [] := List.eq_nil_of_length_eq_zero hn
    subst this
    rw [run_convert_bytes_string w 95 9 5 none 0 0 Tryz.underlying95 Tryz.underlying5 Tryz.underlying9]
    simp [Conv.bytesToString]
    rfl
  · subst hn
    refine run_convert_bytes_back w 95 9 5 ⟨g, 0, none⟩ cap o Tryz.underlying95 Tryz.underlying5 Tryz.underlying9 ?_
    intro j hj
    have e : cur[j]? = some (Value.int .u8 (o[j].toNat : Int)) := by
      have : (cur.toList.take (o.length * 1))[j]? = (Lib.byteCells o)[j]? := by rw [r4]
      rw [List.getElem?_take_of_lt (by omega)] at this
      simpa [Lib.byteCells, hj] using this
    have ea : (⟨g, 0, none⟩ : Addr).add j = ⟨g, j, none⟩ := by
      unfold Addr.add
      by_cases h0 : j = 0 <;> simp [h0]
    rw [ea]
    simp [World.cell?, hh, e]

theorem pStr_step {l : List UInt8} {c : UInt8} {t o r : List UInt8} (h : l = c :: t) (hc : c ≠ 34) (hh : ch false c t = some (o, r)) : pStr false l = (pStr false r).map fun x => (o ++ x.1, x.2) := by
  subst h; rw [pStr_cons, if_neg hc, hh]
theorem pStr_bad {l : List UInt8} {c : UInt8} {t : List UInt8} (h : l = c :: t) (hc : c ≠ 34) (hh : ch false c t = none) : pStr false l = none := by
  subst h; rw [pStr_cons, if_neg hc, hh]
theorem enc_eq (x : Nat) (hx : okR x) : encL x = Lib.encodeRune (x : Int) := by
  unfold Lib.encodeRune
  have hx' := hx
  unfold okR at hx'
  rcases encL_cases x hx with ⟨h1, e⟩ | ⟨h1, h2, e⟩ | ⟨h1, h2, e⟩ | ⟨h1, e⟩ <;> rw [e]
  · rw [Lib.encodeRuneZ_one (by omega) (by omega)]
    simp
  · rw [Lib.encodeRuneZ_two (by omega) (by omega)]
    simp only [List.map_cons, List.map_nil]
    repeat' (first | rfl | omega | congr 1)
  · rw [Lib.encodeRuneZ_three (by omega)]
    simp only [List.map_cons, List.map_nil]
    repeat' (first | rfl | omega | congr 1)
  · rw [Lib.encodeRuneZ_four (by omega) (by omega)]
    simp only [List.map_cons, List.map_nil]
    repeat' (first | rfl | omega | congr 1)
theorem byteCells_app (a b : List UInt8) : Lib.byteCells (a ++ b) = Lib.byteCells a ++ Lib.byteCells b := by simp [Lib.byteCells]
theorem byteCells_len (a : List UInt8) : (Lib.byteCells a).length = a.length := by simp [Lib.byteCells]

set_option maxRecDepth 8000 in
/-- Behind the opening quote. -/
theorem quoted_c (W : World) (rb : Nat) (s : ByteArray) (k d : Nat) (w : World) (hr : St W w rb s k d) (t0 : List UInt8) (hl : rest s k = 34 :: t0) :
    Calls Tryz.prog 162 #[.pointer (some ⟨rb, 0, none⟩)] w fun e w' =>
      Res W rb s d w (pStr false t0) (fun _ o v => v = .string ⟨o.toArray⟩ ∧ o.length ≤ 2400) e w' := by
  have hsz := hr.sz
  obtain ⟨g1, g2, g3, g4⟩ := nxt_cons hl
  have H := hide (And.intro g2 g3)
  clear hl g2 g3 g4
  obtain ⟨i0, hi, hz0, hz1, hz2⟩ := info_parts info8
  go_enter Tryz.func162, Tryz.ntmps162
  go_wp2_with fail
  refine (next_o W rb s k d _ hr 34 H.out.1).mono ?_
  rintro e w1 ⟨rfl, h1, h2⟩
  obtain ⟨c0, c1, c2, f1, f2, hb⟩ := h1.rdr.facts
  have hrw : rb < w.heap.size := hr.rdr.facts.2.2.2.2.2
  go_wp2_with fail
  go_loopg [3] (s.size - (k + 1)) (fun g v wr => ∃ (k' : Nat) (o : List UInt8), g = s.size - k' ∧ k < k' ∧ o.length ≤ 4 * k' ∧ St W wr rb s k' d ∧ Kp (· = rb) w wr ∧ wr.ownsRow w.heap.size 5 1 v o.length (Lib.byteCells o) ∧ pStr false t0 = (pStr false (rest s k')).map fun x => (o ++ x.1, x.2))
  case atStart =>
    refine ⟨k + 1, [], rfl, by omega, by simp, h1.at (k + 1) g1, Kp.setCell (p := ⟨rb, 1, none⟩) h2 (fun _ => rfl) _, World.ownsRow_nil _ _ _ _, ?_⟩
    rw [H.out.2]
    cases pStr false t0 <;> simp
  case round =>
    obtain ⟨k', o, hg, hkk, hol, q1, q2, q3, q4⟩ := hrel
    have Q := hide (And.intro hg q4)
    clear hg q4
    have hle := q1.le
    clear c0 c1 c2 f1 f2 hb
    generalize hl : rest s k' = l
    rcases l with _ | ⟨c, t⟩
    · have hk := rest_end hl hle
      have e := Q.out.2
      rw [hl, pStr_nil] at e
      have E : Hid (pStr false t0 = none) := e
      clear hl e
      go_wp2_with fail
      refine (pop_none W rb s k' d _ q1 hk).mono ?_
      rintro e w2 ⟨p1, p2⟩
      obtain ⟨fb, k3, g, cb, rfl, q⟩ := p2
      exact ⟨rfl, res_none E.out ⟨q2.trans p1, fb, k3, g, cb, rfl, Nat.le_trans q2.size q.1, q.2⟩⟩
    obtain ⟨a1, a2, a3, a4⟩ := nxt_cons hl
    have A := hide (And.intro hl (And.intro a3 (a4 a1)))
    clear hl a2 a3 a4
    have hc256 : c.toNat < 256 := c.toNat_lt
    go_wp2_with fail
    refine (pop_some W rb s k' d _ q1 a1).mono ?_
    rintro e w2 ⟨rfl, p1, p2⟩
    rw [A.out.2.2]
    have own2 : w2.ownsRow w.heap.size 5 1 u3 o.length (Lib.byteCells o) := by
      refine ownsRow_kp q3 p2 ?_
      intro k hk e
      have := (q3.lt k hk).1
      omega
    replace p2 := q2.trans p2
    clear q1 q2 q3
    by_cases h34 : c = 34
    · subst h34
      have hconv := own_string own2
      go_wp2
      go_ret
      refine res_some (x := o) (r := t) ?_ p2 ⟨rfl, by omega⟩ p1 A.out.2.1
      rw [Q.out.2, A.out.1, pStr_cons, if_pos rfl]
      simp
    have n34 : ((c.toNat : Int) == 34) = false := u8n h34
    have N34 := hide h34
    clear h34
    by_cases h92 : c = 92
    · subst h92
      go_wp2_with fail
      refine (escape_c W rb s (k' + 1) d _ p1).mono ?_
      rintro e w3 ⟨v1, v2⟩
      rw [A.out.2.1] at v2
      cases hy : esc t with
      | none =>
        rw [hy] at v2
        obtain ⟨fb, k3, g, cb, rfl, q⟩ := v2
        refine ⟨rfl, res_none ?_ ⟨p2.trans v1, fb, k3, g, cb, rfl, Nat.le_trans p2.size q.1, q.2⟩⟩
        rw [Q.out.2, pStr_bad A.out.1 N34.out (by simp [ch, hy])]
        rfl
      | some p =>
        obtain ⟨x, r⟩ := p
        rw [hy] at v2
        obtain ⟨_, k3, rfl, rfl, z1, z2⟩ := v2
        have hok := (esc_ok hy).1
        have hlen := esc_len hy
        have hx : (x : Int) ≤ 1114111 := by unfold okR at hok; omega
        have own3 : w3.ownsRow w.heap.size 5 1 u3 o.length (Lib.byteCells o) := by
          refine ownsRow_kp own2 v1 ?_
          intro k hk e
          have := (own2.lt k hk).1
          omega
        have Y := hide (And.intro hy (And.intro z2 hok))
        clear hy z2 hok
        have hk3 : k' + 1 < k3 := by
          have e1 : (rest s k3).length = s.size - k3 := by simp [rest]
          have e2 : t.length = s.size - (k' + 1) := by rw [← A.out.2.1]; simp [rest]
          rw [Y.out.2.1] at e1
          have := z1.le
          omega
        go_wp2_with fail
        refine (Tryz.utf8_AppendRune_plain w.heap.size u3 o.length (Lib.byteCells o) x (by omega) (by omega) _ own3 (by omega) (p2.trans v1).size).mono ?_
        rintro e w4 ⟨v', rfl, y1, ob, y2⟩
        have K4 : Kp (· = rb) w w4 := ((p2.trans v1).alloc ob).grown y2 (fun k hk hlt => by have := (own3.lt k hk).1; omega)
        have S4 : St W w4 rb s k3 d := (z1.keep (S := fun _ => False) ((Kp.refl _ _).alloc ob) (by simp) (by simp)).keep (S := fun k => u3.ownBlock = some k) ((Kp.refl _ _).grown y2 (fun k hk _ => hk)) (fun i hi => by have := (own3.lt i hi).1; have := z1.old.size; have := hr.old.size; omega) (fun hi => by have := (own3.lt rb hi).1; omega)
        have e5 : Lib.runeCells (x : Int) = Lib.byteCells (encL x) := by rw [enc_eq x Y.out.2.2, Lib.byteCells_encodeRune]
        have e6 := Lib.runeCells_le (x : Int)
        rw [e5, byteCells_len, ← byteCells_app, ← List.length_append] at y1
        have Y1 := hide y1
        have hl4 : (encL x).length ≤ 4 := by rw [e5, byteCells_len] at e6; omega
        clear y1 e5 e6 y2 own3 own2
        go_wp2
        go_roundg (s.size - k3)
        case measure => rw [Q.out.1]; omega
        case rel =>
          refine ⟨k3, o ++ encL x, rfl, by omega, by rw [List.length_append]; omega, S4, K4, Y1.out, ?_⟩
          have hch : ch false 92 t = some (encL x, r) := by simp [ch, Y.out.1, encL]
          rw [Q.out.2, pStr_step A.out.1 N34.out hch, Y.out.2.1]
          cases pStr false r <;> simp
    have n92 : ((c.toNat : Int) == 92) = false := u8n h92
    have N92 := hide h92
    clear h92
    by_cases h32 : (c.toNat : Int) < 32
    · obtain ⟨cb, hg, he⟩ := p1.err 20 (by decide) (by decide)
      go_wp2_with (go_at_call 132; refine (fault_c rb s (k' + 1) d _ p1.rdr _ _).mono ?_; rintro e w' ⟨rfl, rfl⟩)
      refine ⟨rfl, res_none ?_ (thrown_new p2 he)⟩
      rw [Q.out.2, pStr_bad A.out.1 N34.out (by simp [ch, UInt8.lt_iff_toNat_lt]; omega)]
      rfl
    · have h32' : 32 ≤ (c.toNat : Int) := by omega
      clear h32
      go_wp2_with (at_builtin; refine wpList_append_own _ rfl _ _ 95 rfl w.heap.size 5 i0 (.int .u8 0) 1 1 Tryz.underlying95 hi hz0 hz1 hz2 rfl (by decide) _ _ _ rfl (own2.alloc _) ⟨w2.heap.size, 0, none⟩ 1 1 [.int .u8 c.toNat] rfl rfl ?c1 ?c2 ?c3 ?c4 ?c5 ?_)
      case c1 =>
        intro j u hj
        match j, hj with
        | 0, hj => simp at hj; subst hj; simp [Addr.add]
      case c2 => intro u hu; simp at hu; subst hu; rfl
      case c3 => unfold maxLen; omega
      case c4 => omega
      case c5 => have := p2.size; simp; omega
      intro v' w3 y1 y2 _
      have K3 : Kp (· = rb) w w3 := (p2.alloc _).grown y2 (fun k hk hlt => by have := (own2.lt k hk).1; omega)
      have S3 : St W w3 rb s (k' + 1) d := (p1.keep (S := fun _ => False) ((Kp.refl _ _).alloc _) (by simp) (by simp)).keep (S := fun k => u3.ownBlock = some k) ((Kp.refl _ _).grown y2 (fun k hk _ => hk)) (fun i hi => by have := (own2.lt i hi).1; have := hr.old.size; omega) (fun hi => by have := (own2.lt rb hi).1; omega)
      have e5 : [Value.int .u8 (c.toNat : Int)] = Lib.byteCells [c] := rfl
      rw [e5, ← byteCells_app] at y1
      have Y1 : Hid (w3.ownsRow w.heap.size 5 1 v' (o ++ [c]).length (Lib.byteCells (o ++ [c]))) := by rw [List.length_append]; exact y1
      clear y1 e5 y2 own2
      go_wp2
      go_roundg (s.size - (k' + 1))
      case measure => rw [Q.out.1]; omega
      case rel =>
        refine ⟨k' + 1, o ++ [c], rfl, by omega, by rw [List.length_append]; simp; omega, S3, K3, Y1.out, ?_⟩
        have hch : ch false c t = some ([c], t) := by
          unfold ch
          rw [if_neg (by rw [UInt8.lt_iff_toNat_lt]; show ¬ c.toNat < 32; omega), if_neg N92.out]
          rfl
        rw [Q.out.2, pStr_step A.out.1 N34.out hch, A.out.2.1]
        cases pStr false t <;> simp

theorem quoted_bad (W : World) (rb : Nat) (s : ByteArray) (k d : Nat) (w : World) (hr : St W w rb s k d) (hl : (rest s k).head? ≠ some 34) :
    Calls Tryz.prog 162 #[.pointer (some ⟨rb, 0, none⟩)] w fun e w' => Kp (· = rb) w w' ∧ Thrown W w w' e := by
  generalize hc : nxt (rest s k) = c
  have hne : c ≠ 34 := by
    subst hc
    generalize rest s k = l at hl
    cases l with
    | nil => simp [nxt]
    | cons a l => simpa [nxt] using hl
  have n34 : ((c.toNat : Int) != 34) = true := by
    have := u8n hne
    simp only [bne, Bool.not_eq_true']
    exact this
  have HC := hide hc
  clear hc hne hl
  go_enter Tryz.func162, Tryz.ntmps162
  go_wp2_with fail
  refine (next_o W rb s k d _ hr c HC.out).mono ?_
  rintro e w1 ⟨rfl, h1, h2⟩
  obtain ⟨cb, hg, he⟩ := h1.err 19 (by decide) (by decide)
  go_wp2_with (go_at_call 132; refine (fault_c rb s k d _ h1.rdr _ _).mono ?_; rintro e w' ⟨rfl, rfl⟩)
  exact ⟨rfl, thrown_new h2 he⟩
end Go.Proofs.YtocligpfmfmihabGreatDoor

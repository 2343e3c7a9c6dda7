import Derived.Test.YtocligpfmfmihaaGreatDoorSize
namespace Go.Proofs.YtocligpfmfmihaaGreatDoor
open Go.Lib
def kSig : Bs := [115, 105, 103, 110, 97, 116, 117, 114, 101, 115]
def kUns : Bs := [117, 110, 115, 105, 103, 110, 101, 100]
def valueF (s : Bs) : Except Nat J := if 600 < s.length then .error 1 else match parse s with | none => .error 2 | some j => .ok j
def objectF (s : Bs) : Except Nat (List (Bs × J)) := match valueF s with | .error e => .error e | .ok (.obj l) => .ok l | .ok _ => .error 3
def bareL (l : List (Bs × J)) : List (Bs × J) := delK kUns (delK kSig l)
def bareF (l : List (Bs × J)) : Bs := cJ (.obj (bareL l))
def childF (k : Bs) (l : List (Bs × J)) : List (Bs × J) := match lookK k l with | some (.obj m) => m | _ => []
def signL (l : List (Bs × J)) (sv id sig : Bs) : List (Bs × J) :=
 insK kSig (.obj (insK sv (.obj (insK id (.str sig) (childF sv (childF kSig l)))) (childF kSig l))) l
def ansF (r : Except Nat Bs) : Bs × Nat := match r with | .error e => ([], e) | .ok s => (s, 0)
def messageF (s : Bs) : Bs × Nat := ansF ((objectF s).map bareF)
def signedE (s sv id sig : Bs) : Except Nat Bs :=
 match objectF s with
 | .error e => .error e
 | .ok l => if validD sv && validD id && validD sig then .ok (cJ (.obj (signL l sv id sig))) else .error 2
def signedF (s sv id sig : Bs) : Bs × Nat := ansF (signedE s sv id sig)
theorem mem_delK {α : Type} {k : Bs} {l : List (Bs × α)} {p : Bs × α} : p ∈ delK k l ↔ p ∈ l ∧ p.1 ≠ k := by simp [delK]
theorem srt_delK {α : Type} (k : Bs) (l : List (Bs × α)) (h : Srt l) : Srt (delK k l) := List.Pairwise.filter _ h
theorem delK_insK {α : Type} (k : Bs) (v : α) (l : List (Bs × α)) : delK k (insK k v l) = delK k l := by
 induction l with
 | nil => simp [insK, delK]
 | cons q l ih =>
  obtain ⟨a, x⟩ := q
  rw [insK]
  split
  ·simp [delK]
  ·split
   ·rename_i e; subst e; simp [delK]
   ·rename_i hne
    simp only [delK] at ih ⊢
    simp [hne, ih]
theorem WF_delK (d : Nat) (k : Bs) (l : List (Bs × J)) (h : WF (d + 1) (.obj l)) : WF (d + 1) (.obj (delK k l)) := by
 simp only [WF, WFm_iff] at h ⊢
 exact ⟨srt_delK k l h.1, fun p hp => h.2 p (mem_delK.1 hp).1⟩
theorem WF_insK (d : Nat) (k : Bs) (v : J) (l : List (Bs × J)) (hk : validD k = true) (hv : WF d v) (h : WF (d + 1) (.obj l)) : WF (d + 1) (.obj (insK k v l)) := by
 simp only [WF, WFm_iff] at h ⊢
 refine ⟨srt_insK k v l h.1, fun p hp => ?_⟩
 rcases mem_insK hp with rfl | hp
 ·exact ⟨hk, hv⟩
 ·exact h.2 p hp
theorem lookK_mem {α : Type} {k : Bs} {l : List (Bs × α)} {v : α} (h : lookK k l = some v) : (k, v) ∈ l := by
 induction l with
 | nil => simp [lookK] at h
 | cons q l ih =>
  obtain ⟨a, x⟩ := q
  by_cases e : a = k
  ·simp [lookK, e] at h; subst h; simp [e]
  ·simp [lookK, e] at h; simp [ih h]
theorem WF_child (d : Nat) (k : Bs) (l : List (Bs × J)) (h : WF (d + 2) (.obj l)) : WF (d + 1) (.obj (childF k l)) := by
 unfold childF
 split
 ·rename_i m hm
  simp only [WF, WFm_iff] at h
  exact (h.2 _ (lookK_mem hm)).2
 ·simp [WF, WFm, Srt]
theorem WF_signL (l : List (Bs × J)) (sv id sig : Bs) (h : WF 6 (.obj l)) (h1 : validD sv = true) (h2 : validD id = true) (h3 : validD sig = true) : WF 6 (.obj (signL l sv id sig)) := by
 have c1 := WF_child 4 kSig l h
 have c2 := WF_child 3 sv _ c1
 have a : WF 4 (.obj (insK id (.str sig) (childF sv (childF kSig l)))) := WF_insK 3 id _ _ h2 (by simpa [WF] using h3) c2
 have b : WF 5 (.obj (insK sv (.obj (insK id (.str sig) (childF sv (childF kSig l)))) (childF kSig l))) := WF_insK 4 sv _ _ h1 a c1
 exact WF_insK 5 kSig _ l (by decide) b h
theorem pVal_sknil (u : Bool) (d : Nat) (s : Bs) (h : sk s = []) : pVal u d s = none := by
 cases d <;> rw [pVal, h]
end Go.Proofs.YtocligpfmfmihaaGreatDoor

import Derived.Test.YtocligpfmfmihaaGreatDoorRef11
namespace Go.Proofs.YtocligpfmfmihaaGreatDoor
open Go Go.RowKit Go.Maps

/-- What the reference's Parse tells. -/
def RpR (w : World) (s : ByteArray) (e : Ending) (w' : World) : Prop :=
  Kp (fun _ => False) w w' ∧ ((600 < s.size ∧ e = .returned (.tuple #[.pointer none, .int .i64 1])) ∨ (s.size ≤ 600 ∧ parse s.data.toList = none ∧ e = .returned (.tuple #[.pointer none, .int .i64 2])) ∨
    (s.size ≤ 600 ∧ ∃ j b, parse s.data.toList = some j ∧ e = .returned (.tuple #[.pointer (some ⟨b, 0, none⟩), .int .i64 0]) ∧ RR w' (fun c => w.heap.size ≤ c ∧ c < w'.heap.size) j b))
set_option maxRecDepth 20000 in
theorem rparse_c (W : World) (hG : GL W) (s : ByteArray) (w : World) (ho : Below W.heap.size W w) :
    Calls Tryz.prog 37 #[.string s] w fun e w' => RpR w s e w' := by
  by_cases h6 : 600 < s.size
  · have h6' : (600 : Int) < (s.size : Int) := by omega
    go_enter Tryz.func37, Tryz.ntmps37
    go_wp2
    go_ret2
    exact ⟨Kp.refl _ _, Or.inl ⟨h6, rfl⟩⟩
  · have h6' : ¬ (600 : Int) < (s.size : Int) := by omega
    have K0 : Kp (fun _ => False) w (w.alloc (.cells #[.string s, .int .i64 0, .bool false] 128)) := (Kp.refl _ _).alloc _
    have h0 : Rs W (w.alloc (.cells #[.string s, .int .i64 0, .bool false] 128)) w.heap.size s 0 false :=
      ⟨hG, below_kp ho K0, heap_alloc_new w _, ho.size, by omega, by omega, fun _ => by omega⟩
    go_enter Tryz.func37, Tryz.ntmps37
    go_wp2_with fail
    refine (vlC W 6 0 rfl w.heap.size s 0 _ h0).mono ?_
    rintro e w1 ⟨b, rfl, K1, k1, bad1, h1, hm⟩
    have r0 : rest s 0 = s.data.toList := by simp [rest]
    rw [r0] at hm
    have hpe := parse_eq s.data.toList
    have K : Kp (fun _ => False) w w1 := K0.and K1 (fun i hi e => by omega)
    have hk1 := K1.size
    have HM := hide (And.intro hm hpe)
    clear hm hpe r0
    obtain ⟨c0, c1, c2, f1, f2, hb⟩ := h1.facts
    cases bad1 with
    | true =>
      go_wp2
      go_ret2
      refine ⟨K, Or.inr (Or.inl ⟨by omega, ?_, rfl⟩)⟩
      rw [← HM.out.2, pTop]
      have hm := HM.out.1
      cases hp : pVal true 6 s.data.toList with
      | none => rfl
      | some z => rw [hp] at hm; cases hm.1
    | false =>
      have hgd := h1.good rfl
      have hm := HM.out.1
      have hpe := HM.out.2
      rw [pTop] at hpe
      cases hp : pVal true 6 s.data.toList with
      | none => rw [hp] at hm; cases hm
      | some z =>
        obtain ⟨j, r⟩ := z
        rw [hp] at hm hpe
        obtain ⟨_, hr, ht⟩ := hm
        have hl := rest_len s k1
        rw [hr] at hl
        by_cases hsk : sk r = []
        · have hk : k1 = s.size := by rw [hsk] at hl; simp at hl; omega
          have hne : ((k1 : Int) != (s.size : Int)) = false := by simp; omega
          have X := hide (And.intro hpe (And.intro ht hsk))
          clear hp hpe ht hr hl hk hsk HM
          go_wp2
          go_ret2
          refine ⟨K, Or.inr (Or.inr ⟨by omega, j, b, ?_, rfl, ?_⟩)⟩
          · have := X.out.1
            rw [← this]
            simp [X.out.2.2]
          · exact X.out.2.1.frame (fun _ _ => rfl) (fun c hc => ⟨by have := hc.1; simp at this; omega, hc.2⟩)
        · have hk : k1 ≠ s.size := by
            intro e
            apply hsk
            exact List.eq_nil_of_length_eq_zero (hl.trans (by omega))
          have hne : ((k1 : Int) != (s.size : Int)) = true := by simp; omega
          have X := hide (And.intro hpe hsk)
          clear hp hpe ht hr hl hsk HM
          go_wp2
          go_ret2
          refine ⟨K, Or.inr (Or.inl ⟨by omega, ?_, rfl⟩)⟩
          rw [← X.out.1]
          simp [X.out.2]
end Go.Proofs.YtocligpfmfmihaaGreatDoor

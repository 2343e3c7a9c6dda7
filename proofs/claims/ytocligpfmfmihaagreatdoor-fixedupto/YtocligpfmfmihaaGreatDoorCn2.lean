import Derived.Test.YtocligpfmfmihaaGreatDoorCn
namespace Go.Proofs.YtocligpfmfmihaaGreatDoor
open Go Go.RowKit Go.Extern.Stop Go.Stop Go.Extern

/-- What readValue comes to. -/
def RvR (W w : World) (l : Bs) (e : Ending) (w' : World) : Prop := Kp (fun _ => False) w w' ∧ ((∃ j v, valueF l = .ok j ∧ e = .returned (.tuple #[v, .nilIface]) ∧ Rep w' (fun b => w.heap.size ≤ b ∧ b < w'.heap.size) j v) ∨
    (∃ n ev, valueF l = .error n ∧ e = .returned (.tuple #[.nilIface, ev]) ∧ EV W w' ev n ∧ ∃ t u, ev = .iface t u))

theorem dlen (s : ByteArray) : s.data.toList.length = s.size := by rw [Array.length_toList]; rfl
set_option maxRecDepth 20000 in
theorem readValue_c (W : World) (hN : NG W) (s : ByteArray) (w : World) (hW : Below W.heap.size W w) :
    Calls Tryz.prog 34 #[.string s] w fun e w' => RvR W w s.data.toList e w' := by
  obtain ⟨a, c, t, h1, h2⟩ := hN.lon
  have hc := Below.cl hW h1
  have hsl := dlen s
  by_cases hs : 600 < s.size
  · have hd : decide ((600 : Int) < (s.size : Int)) = true := by simp; omega
    have HE : Hid (EV W w (errV a) 1) := Or.inl ⟨rfl, h1⟩
    have HV := hide (show valueF s.data.toList = .error 1 by unfold valueF; rw [if_pos (by omega)])
    unfold errV at hc HE
    clear h1 h2
    go_enter Tryz.func34, Tryz.ntmps34
    go_wp2
    go_quiet (fail)
    go_wp2
    go_ret2
    exact ⟨(Kp.refl _ _).drewN _, Or.inr ⟨1, _, HV.out, rfl, HE.out, _, _, rfl⟩⟩
  · have hd : decide ((600 : Int) < (s.size : Int)) = false := by simp; omega
    have hs' : s.size ≤ 600 := by omega
    clear h1 h2
    go_enter Tryz.func34, Tryz.ntmps34
    go_wp2_with fail
    refine (parse_c W hN.gl s hs' w hW).mono ?_
    rintro e w' ⟨hk, h⟩
    have HV := hide (show valueF s.data.toList = match parse s.data.toList with | none => .error 2 | some j => .ok j by unfold valueF; rw [if_neg (by omega)]; cases parse s.data.toList <;> rfl)
    have HK := hide hk
    clear hk
    rcases h with ⟨j, v, hp, rfl, hr⟩ | ⟨hp, fb, rfl, h3, h4⟩
    · obtain ⟨tt, u, rfl⟩ := Rep.iface hr
      have HR : Hid (RvR W w s.data.toList (.returned (.tuple #[.iface tt u, .nilIface])) w') := ⟨HK.out, Or.inl ⟨j, _, by rw [HV.out, hp], rfl, hr⟩⟩
      clear hp hr
      go_wp2
      go_ret2
      exact HR.out
    · have HR : Hid (RvR W w s.data.toList (.returned (.tuple #[.nilIface, .iface 116 (.pointer (some ⟨fb, 0, none⟩))])) w') := ⟨HK.out, Or.inr ⟨2, _, by rw [HV.out, hp], rfl, Or.inr (Or.inl ⟨rfl, fb, rfl, h4⟩), _, _, rfl⟩⟩
      clear hp h3 h4
      go_wp2
      go_ret2
      exact HR.out
/-- What a call that hands back a text and a number comes to. -/
def AnsR (w : World) (r : Bs × Nat) (e : Ending) (w' : World) : Prop := e = .returned (.tuple #[.string ⟨r.1.toArray⟩, .int .i64 r.2]) ∧ Kp (fun _ => False) w w'
theorem kp_wr {w w2 : World} (h : Wr w.heap.size w w2) : Kp (fun _ => False) w w2 := ⟨h.below.os, h.below.tape, h.below.output, h.below.size, fun k hk _ => h.below.block k hk⟩
set_option maxRecDepth 20000 in
theorem canon_c (W : World) (hN : NG W) (s : ByteArray) (w : World) (hW : Below W.heap.size W w) :
    Calls Tryz.prog 14 #[.string s] w fun e w' => AnsR w (canonF s.data.toList) e w' := by
  go_enter Tryz.func14, Tryz.ntmps14
  go_wp2_with fail
  refine (readValue_c W hN s w hW).mono ?_
  rintro e w' ⟨hk, ⟨j, v, hv, rfl, hr⟩ | ⟨n, ev, hv, rfl, he, tt, u, rfl⟩⟩
  · obtain ⟨tt, u, rfl⟩ := Rep.iface hr
    have hb := below_kp hW hk
    have hp : parse s.data.toList = some j ∧ s.data.toList.length ≤ 600 := by
      unfold valueF at hv
      split at hv
      · cases hv
      · split at hv
        · cases hv
        · injection hv with hv
          subst hv
          rename_i _ _ hx _ _
          exact ⟨by assumption, by omega⟩
    have hok := parse_ok hp.1
    have hcl := cnt_le j
    have hm : (cnt j + 1) * ((cJ j).length + 2) ≤ 601 * 602 := Nat.mul_le_mul (by omega) (by omega)
    have H := hide (And.intro hr (And.intro hok.1 (And.intro hk hv)))
    have hcl' : cnt j ≤ 1000000 := by omega
    clear hr hok hp hv hk
    go_wp2_with fail
    refine (vcanon_c W hN.gl 6 j H.out.2.1 hcl' (by omega) _ _ w' hb H.out.1).mono ?_
    rintro e w2 ⟨rfl, hw⟩
    have HK := hide (H.out.2.2.1.trans (kp_wr hw))
    clear hw
    go_wp2
    go_ret2
    refine ⟨?_, HK.out⟩
    unfold canonF
    rw [H.out.2.2.2]
    rfl
  · have hb := below_kp hW hk
    have H := hide (And.intro he (And.intro hk hv))
    clear he hk hv
    go_wp2_with fail
    refine (errno_c W hN w' hb _ n H.out.1).mono ?_
    rintro e w2 ⟨rfl, hw⟩
    have HK := hide (H.out.2.1.trans hw)
    clear hw
    go_wp2
    go_ret2
    refine ⟨?_, HK.out⟩
    unfold canonF
    rw [H.out.2.2]
    rfl
end Go.Proofs.YtocligpfmfmihaaGreatDoor

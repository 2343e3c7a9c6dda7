import Derived.Test.YtocligpfmfmihaaGreatDoorCn2
import Derived.Test.YtocligpfmfmihaaGreatDoorMaps
import Derived.Maps.OwnSet
namespace Go.Proofs.YtocligpfmfmihaaGreatDoor
open Go Go.RowKit Go.Maps Go.WideMaps

theorem to0 (w : World) : (Instr.typeAssert (.iface 221 (.agg #[])) 59 71 true).run Tryz.prog w = .ok (.tuple #[.map none, .bool false]) w := by kernel_rfl
theorem to1 (b : Bool) (w : World) : (Instr.typeAssert (.iface 222 (.bool b)) 59 71 true).run Tryz.prog w = .ok (.tuple #[.map none, .bool false]) w := by kernel_rfl
theorem to2 (n : Int) (w : World) : (Instr.typeAssert (.iface 224 (.int .i64 n)) 59 71 true).run Tryz.prog w = .ok (.tuple #[.map none, .bool false]) w := by kernel_rfl
theorem to3 (s : ByteArray) (w : World) : (Instr.typeAssert (.iface 137 (.string s)) 59 71 true).run Tryz.prog w = .ok (.tuple #[.map none, .bool false]) w := by kernel_rfl
theorem to4 (sv : Value) (w : World) : (Instr.typeAssert (.iface 228 sv) 59 71 true).run Tryz.prog w = .ok (.tuple #[.map none, .bool false]) w := by kernel_rfl
/-- Is it an object? -/
def isO : J → Bool | .obj _ => true | _ => false
theorem rep_no {w : World} {F : Nat → Prop} {j : J} {tt : TypeId} {u : Value} (h : Rep w F j (.iface tt u)) (hj : isO j = false) : ∀ w, (Instr.typeAssert (.iface tt u) 59 71 true).run Tryz.prog w = .ok (.tuple #[.map none, .bool false]) w := by
  cases j with
  | null => rw [Rep] at h; cases h; exact to0
  | bool b => rw [Rep] at h; cases h; exact to1 b
  | num n => rw [Rep] at h; cases h; exact to2 n
  | str s => rw [Rep] at h; cases h; exact to3 _
  | arr l => rw [Rep] at h; obtain ⟨sv, vs, e, _⟩ := h; cases e; exact to4 _
  | obj l => cases hj

/-- An object of the program. -/
def Ob (w : World) (F : Nat → Prop) (l : List (Bs × J)) (v : Value) : Prop := Rep w F (.obj l) (.iface 71 v)
theorem Ob.shape {w : World} {F : Nat → Prop} {l : List (Bs × J)} {v : Value} (h : Ob w F l v) : ∃ b m, v = .map (some b) ∧ F b ∧ w.ownsMap Tryz.prog 9 Rv b m.length (dm m) ∧ Repm w F l m := by
  unfold Ob at h
  rw [Rep] at h
  obtain ⟨b, m, e, h1, h2, h3⟩ := h
  cases e
  exact ⟨b, m, rfl, h1, h2, h3⟩
def OoR (W w : World) (l : Bs) (e : Ending) (w' : World) : Prop := Kp (fun _ => False) w w' ∧ ((∃ o b, objectF l = .ok o ∧ e = .returned (.tuple #[.map (some b), .nilIface]) ∧ Ob w' (fun b => w.heap.size ≤ b ∧ b < w'.heap.size) o (.map (some b))) ∨
    (∃ n ev, objectF l = .error n ∧ e = .returned (.tuple #[.map none, ev]) ∧ EV W w' ev n ∧ ∃ t u, ev = .iface t u))
set_option maxRecDepth 20000 in
theorem readObject_c (W : World) (hN : NG W) (s : ByteArray) (w : World) (hW : Below W.heap.size W w) :
    Calls Tryz.prog 39 #[.string s] w fun e w' => OoR W w s.data.toList e w' := by
  obtain ⟨a, c, t, ho1, _⟩ := hN.obj
  go_enter Tryz.func39, Tryz.ntmps39
  go_wp2_with fail
  refine (readValue_c W hN s w hW).mono ?_
  rintro e w' ⟨hk, ⟨j, v, hv, rfl, hr⟩ | ⟨n, ev, hv, rfl, he, tt, u, rfl⟩⟩
  · have hb := below_kp hW hk
    obtain ⟨tt, u, rfl⟩ := Rep.iface hr
    cases hj : isO j with
    | false =>
      have hta := rep_no hr hj
      have hc := Below.cl hb ho1
      have HE : Hid (EV W w' (errV a) 3) := Or.inr (Or.inr ⟨rfl, ho1⟩)
      have HV := hide (show objectF s.data.toList = .error 3 by unfold objectF; rw [hv]; cases j <;> simp_all [isO])
      have HK := hide hk
      unfold errV at hc HE
      clear hk hv hr ho1 hj
      go_wp2
      go_quiet (fail)
      go_wp2
      go_ret2
      exact ⟨HK.out.drewN _, Or.inr ⟨3, _, HV.out, rfl, HE.out, _, _, rfl⟩⟩
    | true =>
      cases j with
      | obj l =>
        have HO := hide hr
        rw [Rep] at hr
        obtain ⟨b, m, e, _⟩ := hr
        cases e
        have hta := ta55 (some b)
        have HV := hide (show objectF s.data.toList = .ok l by unfold objectF; rw [hv])
        have HK := hide hk
        clear hk hv ho1 hj
        go_wp2
        go_ret2
        exact ⟨HK.out, Or.inl ⟨l, b, HV.out, rfl, HO.out⟩⟩
      | null => cases hj
      | bool _ => cases hj
      | num _ => cases hj
      | str _ => cases hj
      | arr _ => cases hj
  · have HV := hide (show objectF s.data.toList = .error n by unfold objectF; rw [hv])
    have HK := hide (And.intro hk he)
    clear hk hv he ho1
    go_wp2
    go_ret2
    exact ⟨HK.out.1, Or.inr ⟨n, _, HV.out, rfl, HK.out.2, _, _, rfl⟩⟩
end Go.Proofs.YtocligpfmfmihaaGreatDoor

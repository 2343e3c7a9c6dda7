import Derived.Test.YtocligpfmfmihaaGreatDoorRef17G
import Derived.Test.YtocligpfmfmihaaGreatDoorRef12
import Derived.Test.YtocligpfmfmihaaGreatDoorCnG
namespace Go.Proofs.YtocligpfmfmihaaGreatDoor
open Go Go.RowKit Go.Maps

theorem canon_long {s : Bs} (h : 600 < s.length) : canonF s = ([], 1) := by
  unfold canonF valueF
  rw [if_pos h]
  rfl
set_option maxRecDepth 20000 in
theorem rcanon_c (W : World) (hG : GL W) (s : ByteArray) (w : World) (ho : Below W.heap.size W w) :
    Calls Tryz.prog 15 #[.string s] w fun e w' => e = .returned (.tuple #[.string ⟨(canonF s.data.toList).1.toArray⟩, .int .i64 ((canonF s.data.toList).2 : Int)]) ∧ Kp (fun _ => False) w w' := by
  go_enter Tryz.func15, Tryz.ntmps15
  go_wp2_with fail
  refine (rparse_c W hG s w ho).mono ?_
  have hsl : s.data.toList.length = s.size := Array.length_toList
  rintro e w1 ⟨K1, (⟨h6, rfl⟩ | ⟨h6, hp, rfl⟩ | ⟨h6, j, b, hp, rfl, hr⟩)⟩
  · have HC := hide (canon_long (s := s.data.toList) (by omega))
    clear hsl
    go_wp2
    go_ret2
    exact ⟨by rw [HC.out]; rfl, K1⟩
  · have HC := hide (canon_bad hp (by omega))
    clear hsl hp
    go_wp2
    go_ret2
    exact ⟨by rw [HC.out]; rfl, K1⟩
  · have HC := hide (canon_ok hp (by omega))
    have hle := (parse_ok hp).2
    have ht := rtextJ hr (by omega) w1 (Kp.refl _ _)
    have HT := hide ht
    clear hsl hp ht hle
    go_wp2_with fail
    refine HT.out.mono ?_
    rintro e w2 ⟨rfl, K2⟩
    go_wp2
    go_ret2
    exact ⟨by rw [HC.out]; rfl, K1.trans K2⟩
set_option maxRecDepth 20000 in
theorem canons_c (W : World) (hN : NG W) (s : ByteArray) :
    Calls Tryz.prog 3 #[.string s] W fun e w' => e = .returned (.bool true) ∧ Kp (fun _ => False) W w' := by
  go_enter Tryz.func3, Tryz.ntmps3
  go_wp2_with fail
  refine (canon_c W hN s W (Below.refl _ _)).mono ?_
  rintro e w1 ⟨rfl, K1⟩
  go_wp2_with fail
  refine (rcanon_c W hN.gl s w1 (below_kp (Below.refl _ W) K1)).mono ?_
  rintro e w2 ⟨rfl, K2⟩
  generalize (canonF s.data.toList).1 = a at *
  generalize (canonF s.data.toList).2 = n at *
  go_wp2
  all_goals
    go_ret
    exact ⟨by simp, K1.trans K2⟩
end Go.Proofs.YtocligpfmfmihaaGreatDoor

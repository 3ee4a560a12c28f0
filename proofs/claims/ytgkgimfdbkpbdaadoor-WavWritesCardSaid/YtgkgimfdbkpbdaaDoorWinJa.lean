/- What a window's Uint returns, for every window, place, width and both orders (contracts of the functions; a text has at most 2^48 bytes, a window begins within 0 to 2^48). -/
import Derived.Test.YtgkgimfdbkpbdaaDoorWinI
import Derived.Deep.RegionWith
namespace Go.Proofs.YtgkgimfdbkpbdaaDoor
open Go.RowKit
set_option linter.unusedVariables false

set_option maxRecDepth 100000 in
set_option maxHeartbeats 1000000 in
theorem uint_big (b : Int) (b0 : 0 ≤ b) (b1 : b ≤ 281474976710656) (s : ByteArray) (hs : s.size ≤ lim) (p d : Nat) (hd1 : 1 ≤ d) (hd2 : d ≤ 8) (hw : widB (d : Int) = true) (hpd : p + d ≤ s.size) (w : World) :
    Calls Tryd.prog 43 #[.agg #[.int .i64 b, .string s], .int .i64 p, .int .i64 d, .bool true] w fun e w' => e = .returned (.tuple #[.int .u64 (numAt s p d true), .int .i64 0]) ∧ Bw w w' := by
  have hmf : ∀ (fn : Fn) (first cap : Array Value) (w : World), (Instr.makeFunc fn first cap).run Tryd.prog w = .ok (.func fn first cap) w := fun _ _ _ _ => rfl
  obtain ⟨T, hT0⟩ : ∃ T, s.extract p (p + d) = T := ⟨_, rfl⟩
  have hTs : T.size = d := by rw [← hT0]; simp; omega
  have hT := hid hT0
  have hT1 : T.size ≤ d := by omega
  have hT2 : d ≤ T.size := by omega
  clear hT0 hTs
  have Hs := hid hs
  go_enter Tryd.func43, Tryd.ntmps43
  go_wp2_with (go_at_call 61; refine (isWidth_any _ _).mono ?_; rintro e w' ⟨rfl, rfl⟩)
  go_region_with (first | (go_at_call 63; refine (order_big _ _).mono ?_; rintro e w1 ⟨rfl, rfl⟩) | (go_at_call 62; refine (number_big b b0 b1 s Hs.out p d hd1 hd2 hpd T hT hT1 hT2 _ _ ?_ ?_).mono ?_; (simp); (simp); rintro e w2 ⟨rfl, hw2⟩))
  all_goals go_wp2
  all_goals go_returns
  all_goals refine ⟨rfl, Below.trans ?_ (Below.mono hw2 ?_)⟩
  all_goals first | go_grown | (simp; try omega)

end Go.Proofs.YtgkgimfdbkpbdaaDoor

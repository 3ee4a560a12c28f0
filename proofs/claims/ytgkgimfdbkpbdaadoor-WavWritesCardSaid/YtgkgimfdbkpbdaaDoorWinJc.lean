/- What a window's Uint returns, for every window, place, width and both orders (contracts of the functions; a text has at most 2^48 bytes, a window begins within 0 to 2^48). -/
import Derived.Test.YtgkgimfdbkpbdaaDoorWinI
import Derived.Deep.RegionWith
namespace Go.Proofs.YtgkgimfdbkpbdaaDoor
open Go.RowKit
set_option linter.unusedVariables false

set_option maxRecDepth 100000 in
set_option maxHeartbeats 2000000 in
theorem uint_bad (b : Int) (b0 : 0 ≤ b) (b1 : b ≤ 281474976710656) (s : ByteArray) (hs : s.size ≤ lim) (a d : Int) (big : Bool) (hw : widB d = true) (hE : (subE s.size a d != 0) = true) (w : World) :
    Calls Tryd.prog 43 #[.agg #[.int .i64 b, .string s], .int .i64 a, .int .i64 d, .bool big] w fun e w' => e = .returned (.tuple #[.int .u64 0, .int .i64 (subE s.size a d)]) ∧ Bw w w' := by
  have hmf : ∀ (fn : Fn) (first cap : Array Value) (w : World), (Instr.makeFunc fn first cap).run Tryd.prog w = .ok (.func fn first cap) w := fun _ _ _ _ => rfl
  cases big
  all_goals
    go_enter Tryd.func43, Tryd.ntmps43
    go_wp2_with (go_at_call 61; refine (isWidth_any _ _).mono ?_; rintro e w' ⟨rfl, rfl⟩)
    go_region_with (first | (go_at_call 63; (first | (with_reducible refine (order_big _ _).mono ?_) | (with_reducible refine (order_little _ _).mono ?_)); rintro e w1 ⟨rfl, rfl⟩) | (go_at_call 62; refine (number_bad b b0 b1 s hs a d hE _ _).mono ?_; rintro e w2 ⟨rfl, hw2⟩))
    all_goals go_wp2
    all_goals go_returns
    all_goals refine ⟨rfl, Below.trans ?_ (Below.mono hw2 ?_)⟩
    all_goals first | go_grown | (simp; try omega)

end Go.Proofs.YtgkgimfdbkpbdaaDoor

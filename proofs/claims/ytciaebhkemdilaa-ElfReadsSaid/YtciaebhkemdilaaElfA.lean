/- The reader of a part of a file: what its methods return, or panic with (contracts of the functions). -/
import Derived.Test.YtciaebhkemdilaaWinY
import Derived.Test.YtciaebhkemdilaaWinZ
import Derived.Test.YtciaebhkemdilaaKitE
import Derived.Deep.RegionHeld3
import Derived.StillTailTactics
import Derived.Deep.DeepCutAuto
import Derived.IntWalk
namespace Go.Proofs.Ytciaebhkemdilaa
open Go.RowKit
set_option linter.unusedVariables false
set_option linter.unusedSimpArgs false
abbrev pan (e : Int) : Ending := .panicked [{ v := .iface 28 (.int .i64 e), recovered := false }]
theorem w8 : widB ((8 : Nat) : Int) = true := by decide
theorem w4 : widB ((4 : Nat) : Int) = true := by decide
theorem w2 : widB ((2 : Nat) : Int) = true := by decide
set_option maxHeartbeats 400000 in
theorem demand_ok (er : Int) (w : World) : Calls Try.prog 69 #[.bool true, .int .i64 er] w fun e w' => e = .returned (.tuple #[]) ∧ w' = w := by
  go_enter Try.func69, Try.ntmps69
  go_wp2
  go_returns
  exact ⟨rfl, rfl⟩
set_option maxHeartbeats 400000 in
theorem demand_bad (er : Int) (w : World) : Calls Try.prog 69 #[.bool false, .int .i64 er] w fun e w' => e = pan er ∧ w' = w := by
  go_enter Try.func69, Try.ntmps69
  go_wp2
  exact ⟨rfl, rfl, rfl⟩
set_option maxHeartbeats 400000 in
theorem is_ok (w : World) : Calls Try.prog 68 #[.bool true] w fun e w' => e = .returned (.tuple #[]) ∧ w' = w := by
  go_enter Try.func68, Try.ntmps68
  go_wp2_with fail
  refine (demand_ok 3 _).mono ?_
  rintro e w2 ⟨rfl, rfl⟩
  go_wp2
  go_returns
  exact ⟨rfl, rfl⟩
set_option maxHeartbeats 400000 in
theorem is_bad (w : World) : Calls Try.prog 68 #[.bool false] w fun e w' => e = pan 3 ∧ w' = w := by
  go_enter Try.func68, Try.ntmps68
  go_wp2_with fail
  refine (demand_bad 3 _).mono ?_
  rintro e w2 ⟨rfl, rfl⟩
  exact ⟨rfl, rfl, rfl⟩
/-- A reader at g: its text, how far it is. -/
def Rdr (w : World) (g b : Nat) (T : ByteArray) (q : Nat) : Prop := Has w g 119 #[.int .i64 b, .string T, .int .i64 q]
theorem uint_in {s : ByteArray} {p d : Nat} (hd : widB (d : Int) = true) (h : p + d ≤ s.size) : uintE s.size p d = 0 := by
  rw [uintE_sub hd]
  exact subE_ok (by omega) (by omega)
theorem uintd_any (d : Nat) (hd : widB (d : Int) = true) (s : ByteArray) (hs : s.size ≤ lim) (p : Nat) (h : p + d ≤ s.size) (b : Nat) (hb : b ≤ 281474976710656) (w : World) :
    Calls Try.prog 98 #[.agg #[.int .i64 b, .string s], .int .i64 p, .int .i64 d, .bool false] w fun e w' => e = .returned (.tuple #[.int .u64 (numAt s p d false), .int .i64 0]) ∧ Bw w w' := by
  have h0 := uint_in (s := s) (p := p) hd h
  have := uint_any (b : Int) (by omega) (by omega) s hs (p : Nat) (d : Nat) false w
  rw [h0, uintV_ok h0] at this
  exact this
set_option maxRecDepth 100000 in
set_option maxHeartbeats 2000000 in
theorem number_any (d : Nat) (hd : widB (d : Int) = true) (g b : Nat) (hb : b ≤ 281474976710656) (T : ByteArray) (hT : T.size ≤ lim) (q : Nat) (h : q + d ≤ T.size) (w : World) (hr : Rdr w g b T q) :
    Calls Try.prog 93 #[.pointer (some ⟨g, 0, none⟩), .int .i64 d] w fun e w' => e = .returned (.int .u64 (numAt T q d false)) ∧ Rdr w' g b T (q + d) ∧ Keeps (· = g) w w' := by
  have HU := hid (fun W => uintd_any d hd T hT q h b hb W)
  have HR := hid hr
  obtain ⟨N, hN⟩ : ∃ N, numAt T q d false = N := ⟨_, rfl⟩
  rw [hN] at HU ⊢
  have hl : T.size ≤ 281474976710656 := hT
  clear hN hT
  have HSK := hid (fun W (hW : Bw w W) => (show W.cell? ⟨g, 0, none⟩ = some (.int .i64 b) ∧ W.cell? ⟨g, 1, none⟩ = some (.string T) ∧ W.cell? ⟨g, 2, none⟩ = some (.int .i64 q) from ⟨(hW.has hr).cell 0, (hW.has hr).cell 1, (hW.has hr).cell 2⟩))
  have HBD := hid (show Bw w w.drew from (Bw.refl w).drewN 1)
  clear hr
  go_enter Try.func93, Try.ntmps93
  go_wp2_with fail
  go_region_held3 (fun W => W.cell? ⟨g, 0, none⟩ = some (.int .i64 b) ∧ W.cell? ⟨g, 1, none⟩ = some (.string T) ∧ W.cell? ⟨g, 2, none⟩ = some (.int .i64 q))
    (first | exact HSK.out _ HBD.out | exact HSK.out _ HB8.out)
    (first | (go_at_call 98; refine (HU.out w.drew).mono ?_; rintro e w8 ⟨rfl, hb8⟩; have HB8 := hid (HBD.out.trans hb8); clear hb8))
  have HR2 := hid (show Rdr w8 g b T q from HB8.out.has HR.out)
  have HK2 := hid (show Keeps (· = g) w w8 from .of_bw HB8.out)
  go_wp2_with fail
  refine (demand_ok 0 _).mono ?_
  rintro e w3 ⟨rfl, rfl⟩
  have c2 : w3.cell? ⟨g, 2, none⟩ = some (.int .i64 q) := HR2.out.cell 2
  have f2 : w3.frozen? ⟨g, 2, none⟩ = false := HR2.out.frozen 2
  have v1 : IntKind.i64.wrap ((q : Int) + d) = (q : Int) + d := IntWalk.i64_in _ (by omega)
  have HC := hid (show ((q + d : Nat) : Int) = (q : Int) + d by omega)
  have HP := hid (Has.put HR2.out 2 (.int .i64 ((q : Int) + d)))
  have HK3 := hid (show Keeps (· = g) w3 (w3.setCell ⟨g, 2, none⟩ (.int .i64 ((q : Int) + d))) from Keeps.of_setCell (F := (· = g)) (p := ⟨g, 2, none⟩) rfl _)
  go_wp2
  go_returns
  exact ⟨rfl, by unfold Rdr; rw [HC.out]; exact HP.out, HK2.out.trans HK3.out⟩
section
variable {g b : Nat} {T : ByteArray} {q : Nat} {w : World}
set_option maxHeartbeats 400000 in
theorem half_any (hb : b ≤ 281474976710656) (hT : T.size ≤ lim) (h : q + 2 ≤ T.size) (hr : Rdr w g b T q) :
    Calls Try.prog 72 #[.pointer (some ⟨g, 0, none⟩)] w fun e w' => e = .returned (.int .i64 (n2 T q)) ∧ Rdr w' g b T (q + 2) ∧ Keeps (· = g) w w' := by
  have HN := hid (number_any 2 w2 g b hb T hT q h w hr)
  have hn := n2_lt T q
  unfold n2 at hn ⊢
  generalize numAt T q 2 false = N at *
  clear hr h hT
  go_enter Try.func72, Try.ntmps72
  go_wp2_with fail
  refine HN.out.mono ?_
  rintro e w2 ⟨rfl, h1, h2⟩
  have H1 := hid h1
  have H2 := hid h2
  clear h1 h2
  go_wp2
  go_returns
  exact ⟨by first | rfl | (congr 2; go_num), H1.out, H2.out⟩
set_option maxHeartbeats 400000 in
theorem word_any (hb : b ≤ 281474976710656) (hT : T.size ≤ lim) (h : q + 4 ≤ T.size) (hr : Rdr w g b T q) :
    Calls Try.prog 73 #[.pointer (some ⟨g, 0, none⟩)] w fun e w' => e = .returned (.int .i64 (n4 T q)) ∧ Rdr w' g b T (q + 4) ∧ Keeps (· = g) w w' := by
  have HN := hid (number_any 4 w4 g b hb T hT q h w hr)
  have hn := n4_lt T q
  unfold n4 at hn ⊢
  generalize numAt T q 4 false = N at *
  clear hr h hT
  go_enter Try.func73, Try.ntmps73
  go_wp2_with fail
  refine HN.out.mono ?_
  rintro e w2 ⟨rfl, h1, h2⟩
  have H1 := hid h1
  have H2 := hid h2
  clear h1 h2
  go_wp2
  go_returns
  exact ⟨by first | rfl | (congr 2; go_num), H1.out, H2.out⟩
set_option maxHeartbeats 400000 in
theorem long_any (hb : b ≤ 281474976710656) (hT : T.size ≤ lim) (h : q + 8 ≤ T.size) (hr : Rdr w g b T q) :
    Calls Try.prog 74 #[.pointer (some ⟨g, 0, none⟩)] w fun e w' => e = .returned (.int .u64 (n8 T q)) ∧ Rdr w' g b T (q + 8) ∧ Keeps (· = g) w w' := by
  have HN := hid (number_any 8 w8 g b hb T hT q h w hr)
  unfold n8
  generalize numAt T q 8 false = N at *
  clear hr h hT
  go_enter Try.func74, Try.ntmps74
  go_wp2_with fail
  refine HN.out.mono ?_
  rintro e w2 ⟨rfl, h1, h2⟩
  have H1 := hid h1
  have H2 := hid h2
  clear h1 h2
  go_wp2
  go_returns
  exact ⟨by first | rfl | (congr 2; go_num), H1.out, H2.out⟩
set_option maxHeartbeats 400000 in
theorem amount_any (hb : b ≤ 281474976710656) (hT : T.size ≤ lim) (h : q + 8 ≤ T.size) (hr : Rdr w g b T q) :
    Calls Try.prog 77 #[.pointer (some ⟨g, 0, none⟩)] w fun e w' => Keeps (· = g) w w' ∧ Rdr w' g b T (q + 8) ∧ ((n8 T q ≤ great ∧ e = .returned (.int .i64 (n8 T q))) ∨ (great < n8 T q ∧ e = pan 3)) := by
  have HN := hid (long_any hb hT h hr)
  generalize n8 T q = N at *
  clear hr h hT
  by_cases hg : N ≤ great
  · have hg2 : (N : Int) ≤ 1099511627776 := by unfold great at hg; omega
    go_enter Try.func77, Try.ntmps77
    go_wp2_with fail
    refine HN.out.mono ?_
    rintro e w2 ⟨rfl, h1, h2⟩
    have H1 := hid h1
    have H2 := hid h2
    clear h1 h2
    go_wp2_with fail
    refine (demand_ok 3 _).mono ?_
    rintro e w3 ⟨rfl, rfl⟩
    go_wp2
    go_returns
    exact ⟨H2.out, H1.out, .inl ⟨hg, by first | rfl | (congr 2; go_num)⟩⟩
  · have hg2 : decide ((N : Int) ≤ 1099511627776) = false := by unfold great at hg; exact decide_eq_false (by omega)
    go_enter Try.func77, Try.ntmps77
    go_wp2_with fail
    refine HN.out.mono ?_
    rintro e w2 ⟨rfl, h1, h2⟩
    have H1 := hid h1
    have H2 := hid h2
    clear h1 h2
    go_wp2_with fail
    refine (demand_bad 3 _).mono ?_
    rintro e w3 ⟨rfl, rfl⟩
    exact ⟨rfl, H2.out, H1.out, .inr ⟨by omega, rfl⟩⟩
end
end Go.Proofs.Ytciaebhkemdilaa

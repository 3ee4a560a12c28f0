/- WinSubs returns true for every text, places and numbers, and changes nothing that was there; no condition. -/
import Derived.Test.YtiflbjflgleljaaWinK
import Derived.Test.YtiflbjflgleljaaLawKit
import Derived.ProofKit
import Derived.OpenShut
import Derived.ShutString
import Derived.ChangeOld
namespace Go.Proofs.Ytiflbjflgleljaa.winSubs
open Go.RowKit Go.ChangeShapes Go.WideShapes Go.ChangeAt
set_option linter.unusedVariables false

theorem sub_both (b : Int) (b0 : 0 ≤ b) (b1 : b ≤ 281474976710656) (s : ByteArray) (hs : s.size ≤ lim) (a n : Int) :
    (∃ E : Int, (E != 0) = true ∧ (∀ w, Calls Try.prog 23 #[.agg #[.int .i64 b, .string s], .int .i64 a, .int .i64 n] w fun e w' => e = .returned (.tuple #[.agg #[.int .i64 0, .string ⟨#[]⟩], .int .i64 E]) ∧ Bw w w') ∧
      ∀ w, Calls Try.prog 24 #[.string s, .int .i64 a, .int .i64 n] w fun e w' => e = .returned (.tuple #[.string ⟨#[]⟩, .int .i64 E]) ∧ w = w') ∨
    (0 ≤ a ∧ a ≤ s.size ∧ ∃ T : ByteArray, T.size ≤ lim ∧ (∀ w, Calls Try.prog 23 #[.agg #[.int .i64 b, .string s], .int .i64 a, .int .i64 n] w fun e w' => e = .returned (.tuple #[.agg #[.int .i64 (b + a), .string T], .int .i64 0]) ∧ Bw w w') ∧
      ∀ w, Calls Try.prog 24 #[.string s, .int .i64 a, .int .i64 n] w fun e w' => e = .returned (.tuple #[.string T, .int .i64 0]) ∧ w = w') := by
  by_cases hE : subE s.size a n = 0
  · right
    have h0 : ¬ (a < 0 ∨ n < 0) := fun h => by rw [subE_arg h] at hE; cases hE
    have h1 : ¬ ((s.size : Int) < a ∨ (s.size : Int) - a < n) := fun h => by rw [subE_cut h0 h] at hE; cases hE
    refine ⟨by omega, by omega, subS s a n, ?_, fun w => ?_, fun w => ?_⟩
    · rw [subS_ok hE]; simp; omega
    · have h := sub_any b b0 b1 s hs a n w
      rwa [subB_ok hE, hE] at h
    · have h := refsub_any s hs a n w
      rwa [hE] at h
  · left
    refine ⟨subE s.size a n, by simpa using hE, fun w => ?_, fun w => ?_⟩
    · have h := sub_any b b0 b1 s hs a n w
      rwa [subB_bad hE, subS_bad hE] at h
    · have h := refsub_any s hs a n w
      rwa [subS_bad hE] at h

set_option maxRecDepth 100000 in
set_option maxHeartbeats 1000000 in
theorem walk (s : ByteArray) (hs : s.size ≤ 140737488351232) (a n a2 n2 : Int) (w : World) :
    Calls Try.prog 5 #[.agg #[.string s, .int .i64 a, .int .i64 n, .int .i64 a2, .int .i64 n2]] w fun e w' => e = .returned (.bool true) ∧ Bw w w' := by
  have Hs := hid (show s.size ≤ lim by unfold lim; omega)
  rcases sub_both 0 (by decide) (by decide) s Hs.out a n with ⟨E, hE, hC, hR⟩ | ⟨a0, a1, T, hT, hC, hR⟩
  · have HC := hid hC
    have HR := hid hR
    clear hC hR
    go_enter Try.func5, Try.ntmps5
    go_wp2_with fail
    go_quiet (fail)
    go_wp2_with fail
    refine (of_any s _).mono ?_
    rintro e wq1 ⟨rfl, hq1⟩
    go_wp2_with fail
    refine (HC.out _).mono ?_
    rintro e wq2 ⟨rfl, hq2⟩
    have Hv := Has.new wq2 34 #[.int .i64 0, .string ⟨#[]⟩]
    go_wp2_with fail
    refine (HR.out _).mono ?_
    rintro e we ⟨rfl, rfl⟩
    go_wp2_with fail
    refine (text_any 0 ⟨#[]⟩ (by decide) _).mono ?_
    rintro e wq3 ⟨rfl, hq3⟩
    have Hv_3 := hq3.has Hv
    have fv_3_0 : wq3.cell? ⟨wq2.heap.size, 0, none⟩ = some (.int .i64 0) := Hv_3.cell 0
    have fv_3_1 : wq3.cell? ⟨wq2.heap.size, 1, none⟩ = some (.string ⟨#[]⟩) := Hv_3.cell 1
    go_wp2_with fail
    refine (len_any 0 ⟨#[]⟩ (by decide) _).mono ?_
    rintro e wq4 ⟨rfl, hq4⟩
    have Hv_4 := hq4.has Hv_3
    have fv_4_0 : wq4.cell? ⟨wq2.heap.size, 0, none⟩ = some (.int .i64 0) := Hv_4.cell 0
    have fv_4_1 : wq4.cell? ⟨wq2.heap.size, 1, none⟩ = some (.string ⟨#[]⟩) := Hv_4.cell 1
    clear fv_3_0 fv_3_1
    go_wp2_with fail
    refine (base_any 0 ⟨#[]⟩ (by decide) _).mono ?_
    rintro e wq5 ⟨rfl, hq5⟩
    have Hv_5 := hq5.has Hv_4
    have fv_5_0 : wq5.cell? ⟨wq2.heap.size, 0, none⟩ = some (.int .i64 0) := Hv_5.cell 0
    have fv_5_1 : wq5.cell? ⟨wq2.heap.size, 1, none⟩ = some (.string ⟨#[]⟩) := Hv_5.cell 1
    clear fv_4_0 fv_4_1
    go_wp2_with fail
    refine (live_any _).mono ?_
    rintro e wq6 ⟨rfl, hq6⟩
    have Hv_6 := hq6.has Hv_5
    have fv_6_0 : wq6.cell? ⟨wq2.heap.size, 0, none⟩ = some (.int .i64 0) := Hv_6.cell 0
    have fv_6_1 : wq6.cell? ⟨wq2.heap.size, 1, none⟩ = some (.string ⟨#[]⟩) := Hv_6.cell 1
    clear fv_5_0 fv_5_1
    go_wp2
    go_returns
    exact ⟨rfl, Bw.trans (below_drewN (Below.alloc (Below.refl _ _) (Nat.le_refl _) _) _) (Bw.trans hq1 (Bw.trans (hq2.alloc _) (Bw.trans hq3 (Bw.trans hq4 (Bw.trans hq5 (hq6))))))⟩
  · simp only [Int.zero_add] at hC
    have HC := hid hC
    have HR := hid hR
    have HT := hid hT
    clear hC hR hT
    rcases sub_both a (by omega) (by omega) T HT.out a2 n2 with ⟨E, hE, hC2, hR2⟩ | ⟨b0, b1, T2, hT2, hC2, hR2⟩
    · have HC2 := hid hC2
      have HR2 := hid hR2
      skip
      have t1 : T.size ≤ 281474976710656 := HT.out
      skip
      clear hC2 hR2
      go_enter Try.func5, Try.ntmps5
      go_wp2_with fail
      go_quiet (fail)
      go_wp2_with fail
      refine (of_any s _).mono ?_
      rintro e wq1 ⟨rfl, hq1⟩
      go_wp2_with fail
      refine (HC.out _).mono ?_
      rintro e wq2 ⟨rfl, hq2⟩
      have Hv := Has.new wq2 34 #[.int .i64 a, .string T]
      go_wp2_with fail
      refine (HR.out _).mono ?_
      rintro e we ⟨rfl, rfl⟩
      go_wp2_with fail
      refine (text_any _ T HT.out _).mono ?_
      rintro e wq3 ⟨rfl, hq3⟩
      have Hv_3 := hq3.has Hv
      have fv_3_0 : wq3.cell? ⟨wq2.heap.size, 0, none⟩ = some (.int .i64 a) := Hv_3.cell 0
      have fv_3_1 : wq3.cell? ⟨wq2.heap.size, 1, none⟩ = some (.string T) := Hv_3.cell 1
      go_wp2_with fail
      refine (len_any _ T HT.out _).mono ?_
      rintro e wq4 ⟨rfl, hq4⟩
      have Hv_4 := hq4.has Hv_3
      have fv_4_0 : wq4.cell? ⟨wq2.heap.size, 0, none⟩ = some (.int .i64 a) := Hv_4.cell 0
      have fv_4_1 : wq4.cell? ⟨wq2.heap.size, 1, none⟩ = some (.string T) := Hv_4.cell 1
      clear fv_3_0 fv_3_1
      go_wp2_with fail
      refine (HC2.out _).mono ?_
      rintro e wq5 ⟨rfl, hq5⟩
      have Hv_5 := hq5.has Hv_4
      have fv_5_0 : wq5.cell? ⟨wq2.heap.size, 0, none⟩ = some (.int .i64 a) := Hv_5.cell 0
      have fv_5_1 : wq5.cell? ⟨wq2.heap.size, 1, none⟩ = some (.string T) := Hv_5.cell 1
      clear fv_4_0 fv_4_1
      have Hv_5a := Hv_5.alloc (.cells #[.int .i64 0, .string ⟨#[]⟩] 34)
      have Hv_5a0 : (wq5.alloc (.cells #[.int .i64 0, .string ⟨#[]⟩] 34)).cell? ⟨wq2.heap.size, 0, none⟩ = some (.int .i64 a) := Hv_5a.cell 0
      have Hv_5a1 : (wq5.alloc (.cells #[.int .i64 0, .string ⟨#[]⟩] 34)).cell? ⟨wq2.heap.size, 1, none⟩ = some (.string T) := Hv_5a.cell 1
      clear fv_5_0 fv_5_1
      have Hu := Has.new wq5 34 #[.int .i64 0, .string ⟨#[]⟩]
      go_wp2_with fail
      refine (HR2.out _).mono ?_
      rintro e we ⟨rfl, rfl⟩
      go_wp2_with fail
      refine (text_any _ ⟨#[]⟩ (by decide) _).mono ?_
      rintro e wq6 ⟨rfl, hq6⟩
      have Hv_6 := hq6.has Hv_5a
      have fv_6_0 : wq6.cell? ⟨wq2.heap.size, 0, none⟩ = some (.int .i64 a) := Hv_6.cell 0
      have fv_6_1 : wq6.cell? ⟨wq2.heap.size, 1, none⟩ = some (.string T) := Hv_6.cell 1
      clear Hv_5a0 Hv_5a1
      have Hu_6 := hq6.has Hu
      have fu_6_0 : wq6.cell? ⟨wq5.heap.size, 0, none⟩ = some (.int .i64 0) := Hu_6.cell 0
      have fu_6_1 : wq6.cell? ⟨wq5.heap.size, 1, none⟩ = some (.string ⟨#[]⟩) := Hu_6.cell 1
      go_wp2_with fail
      refine (len_any _ ⟨#[]⟩ (by decide) _).mono ?_
      rintro e wq7 ⟨rfl, hq7⟩
      have Hv_7 := hq7.has Hv_6
      have fv_7_0 : wq7.cell? ⟨wq2.heap.size, 0, none⟩ = some (.int .i64 a) := Hv_7.cell 0
      have fv_7_1 : wq7.cell? ⟨wq2.heap.size, 1, none⟩ = some (.string T) := Hv_7.cell 1
      clear fv_6_0 fv_6_1
      have Hu_7 := hq7.has Hu_6
      have fu_7_0 : wq7.cell? ⟨wq5.heap.size, 0, none⟩ = some (.int .i64 0) := Hu_7.cell 0
      have fu_7_1 : wq7.cell? ⟨wq5.heap.size, 1, none⟩ = some (.string ⟨#[]⟩) := Hu_7.cell 1
      clear fu_6_0 fu_6_1
      go_wp2_with fail
      refine (base_any _ T HT.out _).mono ?_
      rintro e wq8 ⟨rfl, hq8⟩
      have Hv_8 := hq8.has Hv_7
      have fv_8_0 : wq8.cell? ⟨wq2.heap.size, 0, none⟩ = some (.int .i64 a) := Hv_8.cell 0
      have fv_8_1 : wq8.cell? ⟨wq2.heap.size, 1, none⟩ = some (.string T) := Hv_8.cell 1
      clear fv_7_0 fv_7_1
      have Hu_8 := hq8.has Hu_7
      have fu_8_0 : wq8.cell? ⟨wq5.heap.size, 0, none⟩ = some (.int .i64 0) := Hu_8.cell 0
      have fu_8_1 : wq8.cell? ⟨wq5.heap.size, 1, none⟩ = some (.string ⟨#[]⟩) := Hu_8.cell 1
      clear fu_7_0 fu_7_1
      go_wp2_with fail
      refine (live_any _).mono ?_
      rintro e wq9 ⟨rfl, hq9⟩
      have Hv_9 := hq9.has Hv_8
      have fv_9_0 : wq9.cell? ⟨wq2.heap.size, 0, none⟩ = some (.int .i64 a) := Hv_9.cell 0
      have fv_9_1 : wq9.cell? ⟨wq2.heap.size, 1, none⟩ = some (.string T) := Hv_9.cell 1
      clear fv_8_0 fv_8_1
      have Hu_9 := hq9.has Hu_8
      have fu_9_0 : wq9.cell? ⟨wq5.heap.size, 0, none⟩ = some (.int .i64 0) := Hu_9.cell 0
      have fu_9_1 : wq9.cell? ⟨wq5.heap.size, 1, none⟩ = some (.string ⟨#[]⟩) := Hu_9.cell 1
      clear fu_8_0 fu_8_1
      go_wp2
      go_returns
      exact ⟨rfl, Bw.trans (below_drewN (Below.alloc (Below.refl _ _) (Nat.le_refl _) _) _) (Bw.trans hq1 (Bw.trans (hq2.alloc _) (Bw.trans hq3 (Bw.trans hq4 (Bw.trans (hq5.alloc _) (Bw.trans hq6 (Bw.trans hq7 (Bw.trans hq8 (hq9)))))))))⟩
    · have HC2 := hid hC2
      have HR2 := hid hR2
      have HT2 := hid hT2
      have t1 : T.size ≤ 281474976710656 := HT.out
      have hback : (a + a2 - a == a2) = true := by rw [beq_iff_eq]; omega
      clear hC2 hR2 hT2
      go_enter Try.func5, Try.ntmps5
      go_wp2_with fail
      go_quiet (fail)
      go_wp2_with fail
      refine (of_any s _).mono ?_
      rintro e wq1 ⟨rfl, hq1⟩
      go_wp2_with fail
      refine (HC.out _).mono ?_
      rintro e wq2 ⟨rfl, hq2⟩
      have Hv := Has.new wq2 34 #[.int .i64 a, .string T]
      go_wp2_with fail
      refine (HR.out _).mono ?_
      rintro e we ⟨rfl, rfl⟩
      go_wp2_with fail
      refine (text_any _ T HT.out _).mono ?_
      rintro e wq3 ⟨rfl, hq3⟩
      have Hv_3 := hq3.has Hv
      have fv_3_0 : wq3.cell? ⟨wq2.heap.size, 0, none⟩ = some (.int .i64 a) := Hv_3.cell 0
      have fv_3_1 : wq3.cell? ⟨wq2.heap.size, 1, none⟩ = some (.string T) := Hv_3.cell 1
      go_wp2_with fail
      refine (len_any _ T HT.out _).mono ?_
      rintro e wq4 ⟨rfl, hq4⟩
      have Hv_4 := hq4.has Hv_3
      have fv_4_0 : wq4.cell? ⟨wq2.heap.size, 0, none⟩ = some (.int .i64 a) := Hv_4.cell 0
      have fv_4_1 : wq4.cell? ⟨wq2.heap.size, 1, none⟩ = some (.string T) := Hv_4.cell 1
      clear fv_3_0 fv_3_1
      go_wp2_with fail
      refine (HC2.out _).mono ?_
      rintro e wq5 ⟨rfl, hq5⟩
      have Hv_5 := hq5.has Hv_4
      have fv_5_0 : wq5.cell? ⟨wq2.heap.size, 0, none⟩ = some (.int .i64 a) := Hv_5.cell 0
      have fv_5_1 : wq5.cell? ⟨wq2.heap.size, 1, none⟩ = some (.string T) := Hv_5.cell 1
      clear fv_4_0 fv_4_1
      have Hv_5a := Hv_5.alloc (.cells #[.int .i64 (a + a2), .string T2] 34)
      have Hv_5a0 : (wq5.alloc (.cells #[.int .i64 (a + a2), .string T2] 34)).cell? ⟨wq2.heap.size, 0, none⟩ = some (.int .i64 a) := Hv_5a.cell 0
      have Hv_5a1 : (wq5.alloc (.cells #[.int .i64 (a + a2), .string T2] 34)).cell? ⟨wq2.heap.size, 1, none⟩ = some (.string T) := Hv_5a.cell 1
      clear fv_5_0 fv_5_1
      have Hu := Has.new wq5 34 #[.int .i64 (a + a2), .string T2]
      go_wp2_with fail
      refine (HR2.out _).mono ?_
      rintro e we ⟨rfl, rfl⟩
      go_wp2_with fail
      refine (text_any _ T2 HT2.out _).mono ?_
      rintro e wq6 ⟨rfl, hq6⟩
      have Hv_6 := hq6.has Hv_5a
      have fv_6_0 : wq6.cell? ⟨wq2.heap.size, 0, none⟩ = some (.int .i64 a) := Hv_6.cell 0
      have fv_6_1 : wq6.cell? ⟨wq2.heap.size, 1, none⟩ = some (.string T) := Hv_6.cell 1
      clear Hv_5a0 Hv_5a1
      have Hu_6 := hq6.has Hu
      have fu_6_0 : wq6.cell? ⟨wq5.heap.size, 0, none⟩ = some (.int .i64 (a + a2)) := Hu_6.cell 0
      have fu_6_1 : wq6.cell? ⟨wq5.heap.size, 1, none⟩ = some (.string T2) := Hu_6.cell 1
      go_wp2_with fail
      refine (len_any _ T2 HT2.out _).mono ?_
      rintro e wq7 ⟨rfl, hq7⟩
      have Hv_7 := hq7.has Hv_6
      have fv_7_0 : wq7.cell? ⟨wq2.heap.size, 0, none⟩ = some (.int .i64 a) := Hv_7.cell 0
      have fv_7_1 : wq7.cell? ⟨wq2.heap.size, 1, none⟩ = some (.string T) := Hv_7.cell 1
      clear fv_6_0 fv_6_1
      have Hu_7 := hq7.has Hu_6
      have fu_7_0 : wq7.cell? ⟨wq5.heap.size, 0, none⟩ = some (.int .i64 (a + a2)) := Hu_7.cell 0
      have fu_7_1 : wq7.cell? ⟨wq5.heap.size, 1, none⟩ = some (.string T2) := Hu_7.cell 1
      clear fu_6_0 fu_6_1
      go_wp2_with fail
      refine (base_any _ T HT.out _).mono ?_
      rintro e wq8 ⟨rfl, hq8⟩
      have Hv_8 := hq8.has Hv_7
      have fv_8_0 : wq8.cell? ⟨wq2.heap.size, 0, none⟩ = some (.int .i64 a) := Hv_8.cell 0
      have fv_8_1 : wq8.cell? ⟨wq2.heap.size, 1, none⟩ = some (.string T) := Hv_8.cell 1
      clear fv_7_0 fv_7_1
      have Hu_8 := hq8.has Hu_7
      have fu_8_0 : wq8.cell? ⟨wq5.heap.size, 0, none⟩ = some (.int .i64 (a + a2)) := Hu_8.cell 0
      have fu_8_1 : wq8.cell? ⟨wq5.heap.size, 1, none⟩ = some (.string T2) := Hu_8.cell 1
      clear fu_7_0 fu_7_1
      go_wp2_with fail
      refine (base_any _ T2 HT2.out _).mono ?_
      rintro e wq9 ⟨rfl, hq9⟩
      have Hv_9 := hq9.has Hv_8
      have fv_9_0 : wq9.cell? ⟨wq2.heap.size, 0, none⟩ = some (.int .i64 a) := Hv_9.cell 0
      have fv_9_1 : wq9.cell? ⟨wq2.heap.size, 1, none⟩ = some (.string T) := Hv_9.cell 1
      clear fv_8_0 fv_8_1
      have Hu_9 := hq9.has Hu_8
      have fu_9_0 : wq9.cell? ⟨wq5.heap.size, 0, none⟩ = some (.int .i64 (a + a2)) := Hu_9.cell 0
      have fu_9_1 : wq9.cell? ⟨wq5.heap.size, 1, none⟩ = some (.string T2) := Hu_9.cell 1
      clear fu_8_0 fu_8_1
      go_wp2_with fail
      refine (live_any _).mono ?_
      rintro e wq10 ⟨rfl, hq10⟩
      have Hv_10 := hq10.has Hv_9
      have fv_10_0 : wq10.cell? ⟨wq2.heap.size, 0, none⟩ = some (.int .i64 a) := Hv_10.cell 0
      have fv_10_1 : wq10.cell? ⟨wq2.heap.size, 1, none⟩ = some (.string T) := Hv_10.cell 1
      clear fv_9_0 fv_9_1
      have Hu_10 := hq10.has Hu_9
      have fu_10_0 : wq10.cell? ⟨wq5.heap.size, 0, none⟩ = some (.int .i64 (a + a2)) := Hu_10.cell 0
      have fu_10_1 : wq10.cell? ⟨wq5.heap.size, 1, none⟩ = some (.string T2) := Hu_10.cell 1
      clear fu_9_0 fu_9_1
      go_wp2
      go_returns
      exact ⟨rfl, Bw.trans (below_drewN (Below.alloc (Below.refl _ _) (Nat.le_refl _) _) _) (Bw.trans hq1 (Bw.trans (hq2.alloc _) (Bw.trans hq3 (Bw.trans hq4 (Bw.trans (hq5.alloc _) (Bw.trans hq6 (Bw.trans hq7 (Bw.trans hq8 (Bw.trans hq9 (hq10))))))))))⟩

/-! The frame: from the walk to the statement. -/
theorem own : ownKnob Try.prog.godebug = none := by kernel_rfl
theorem laidOut : laidOutB Try.prog = true := by kernel_rfl
set_option maxRecDepth 100000 in
theorem lifted (os : Os) (started : os.Started) (H : Type) (enc : TypeId × Value → H) :
    ReturnsInHanded {} Try.checked os 5 .any (Rows.winSubsSpec.pre6 enc Try.prog Try.f5 Rows.winSubsRow.domain false) (Rows.winSubsSpec.post enc Try.prog Try.f5 false true false false) := by
  refine returnsInHanded_of_change_sized (C := Try.checked) own started (by kernel_rfl) Try.func5
    (ChangeSpec.witness6 (enc := enc) (C := Try.checked) false ⟨#[], #[.agg #[.string ⟨#[]⟩, .int .i64 0, .int .i64 0, .int .i64 0, .int .i64 0]], []⟩ 8 (by kernel_rfl) (by kernel_rfl) (by kernel_rfl) (by kernel_rfl)) ?_
  intro W base args ds gs before hval0 hW hcnd hsz0 _
  have hval : ∀ (j : Nat) t v, Try.f5.params[j]? = some t → args[j]? = some v → Value.okWide Try.prog W .any base t v := hval0
  have hW' := hW
  obtain ⟨p, q, hA0, hV, rfl, hfz, hnd⟩ := hW
  have hA : DataW.TrodAll enc Try.prog W 0 (fun _ => true) true Try.f5.params.toList args.toList ds p := hA0
  have hsz : (DataW.weightsEach Try.prog (Try.f5.params.toList ++ Rows.winSubsSpec.plain.varTypes Try.prog) (ds ++ gs)).all (· ≤ reachBytes) = true := hsz0
  rw [Try.params5] at hA hval hsz
  obtain ⟨v0, d0, rfl, rfl, h0⟩ := trodAll_one hA
  obtain ⟨rfl, rfl⟩ := trodVars_none hV
  have k0 := h0
  have lt0 : ∀ x ∈ p, x.block < W.heap.size := by obtain ⟨m, hm⟩ := k0; exact DataW.trod_lt m _ _ _ hm
  obtain ⟨cs, ds, rfl, hlen, rfl, hdl, hf⟩ := open_struct Try.underlying32 (by kernel_rfl) (by kernel_rfl) (hval 0 32 v0 rfl rfl) h0
  obtain ⟨x0, c0, e0⟩ := hf.string 0 rfl Try.underlying9
  have z0 := string_reach hsz (j := 0) (i := 0) rfl rfl Try.underlying32 rfl e0
  obtain ⟨x1, c1, e1, w1⟩ := hf.int 1 rfl Try.underlying3
  obtain ⟨x2, c2, e2, w2⟩ := hf.int 2 rfl Try.underlying3
  obtain ⟨x3, c3, e3, w3⟩ := hf.int 3 rfl Try.underlying3
  obtain ⟨x4, c4, e4, w4⟩ := hf.int 4 rfl Try.underlying3
  obtain rfl := list5 hlen c0 c1 c2 c3 c4
  clear hA0 hval0
  try simp only [List.append_nil] at hW'
  refine (walk x0 z0 x1 x2 x3 x4 W).mono fun e W' ⟨he, bel⟩ => ?_
  subst he
  exact ⟨_, rfl, _, _, _, [], _, [], hW', trodAll_mk1 (shut_bool Try.underlying4 _), trodAll_mk1 (Below.trod laidOut (by kernel_rfl) (of_decide_eq_true (by kernel_rfl)) k0 bel lt0), rfl, Below.frame bel _, fun h => by cases h⟩

theorem proved : Rows.WinSubsSaid :=
  OpenClaim.holds_of_wide 5 Try.f5 rfl rfl rfl rfl rfl rfl rfl ⟨rfl, rfl, rfl, rfl, rfl⟩ rfl rfl rfl rfl rfl (by kernel_rfl) Try.func5 (by kernel_rfl)
    (of_decide_eq_true (by kernel_rfl)) (by unfold Func.isWrapper; first | (rw [if_pos (by decide +kernel)]; kernel_rfl) | (rw [if_neg (by decide +kernel)]; exact ⟨rfl, rfl⟩))
    (fun os started H enc _ => lifted os started H enc)
end Go.Proofs.Ytiflbjflgleljaa.winSubs

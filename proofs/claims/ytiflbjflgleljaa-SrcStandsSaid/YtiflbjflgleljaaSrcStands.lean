/- SrcStands returns true for every text, script, place and number, and changes nothing that was there; no condition. -/
import Derived.Test.YtiflbjflgleljaaSrcE
import Derived.Test.YtiflbjflgleljaaStepKit
import Derived.ProofKit
import Derived.OpenShut
import Derived.ShutString
import Derived.ChangeOld
namespace Go.Proofs.Ytiflbjflgleljaa.srcStands
open Go.RowKit Go.ChangeShapes Go.WideShapes Go.ChangeAt
set_option linter.unusedVariables false

theorem rdAll_facts (s : ByteArray) (l : List (Int × Int)) (a n : Int) :
    ((rdAll s l a n).1 = ⟨#[]⟩ ∧ ((rdAll s l a n).2.1 = 1 ∨ (rdAll s l a n).2.1 = 7)) ∨
    (((rdAll s l a n).2.1 = 0 ∨ (rdAll s l a n).2.1 = 2) ∧ 0 ≤ a ∧ 0 ≤ n ∧ (((rdAll s l a n).1.size : Int) ≤ n) ∧ ((rdAll s l a n).1 = ⟨#[]⟩ ∨ (rdAll s l a n).1.size ≠ 0 ∧ a.toNat + (rdAll s l a n).1.size ≤ s.size ∧ (rdAll s l a n).1 = s.extract a.toNat (a.toNat + (rdAll s l a n).1.size))) := by
  unfold rdAll
  split
  · exact .inl ⟨rfl, .inl rfl⟩
  · rename_i hb
    split
    · exact .inl ⟨rfl, .inr rfl⟩
    · right
      generalize (l.head?.getD (0, 0)).1 = x0
      generalize (l.head?.getD (0, 0)).2.toNat = x1
      refine ⟨?_, by omega, by omega, ?_, ?_⟩
      · show rdE s.size a.toNat n.toNat x0 x1 = 0 ∨ rdE s.size a.toNat n.toNat x0 x1 = 2
        unfold rdE
        split
        · exact .inl rfl
        · split
          · exact .inr rfl
          · exact .inl rfl
      · show ((rdV s a.toNat n.toNat x0 x1).size : Int) ≤ n
        unfold rdV rdK
        split <;> simp <;> omega
      · show rdV s a.toNat n.toNat x0 x1 = ⟨#[]⟩ ∨ (rdV s a.toNat n.toNat x0 x1).size ≠ 0 ∧ a.toNat + (rdV s a.toNat n.toNat x0 x1).size ≤ s.size ∧ rdV s a.toNat n.toNat x0 x1 = s.extract a.toNat (a.toNat + (rdV s a.toNat n.toNat x0 x1).size)
        have hk : rdK s.size a.toNat n.toNat ≤ s.size - a.toNat := by unfold rdK; omega
        have key : ∀ j, j ≤ s.size - a.toNat → s.extract a.toNat (a.toNat + j) = ⟨#[]⟩ ∨ (s.extract a.toNat (a.toNat + j)).size ≠ 0 ∧ a.toNat + (s.extract a.toNat (a.toNat + j)).size ≤ s.size ∧ s.extract a.toNat (a.toNat + j) = s.extract a.toNat (a.toNat + (s.extract a.toNat (a.toNat + j)).size) := fun j hj => by
          by_cases hz : (s.extract a.toNat (a.toNat + j)).size = 0
          · left
            have h2 : (s.extract a.toNat (a.toNat + j)).data = #[] := Array.eq_empty_of_size_eq_zero hz
            show (⟨(s.extract a.toNat (a.toNat + j)).data⟩ : ByteArray) = ⟨#[]⟩
            rw [h2]
          · have e : (s.extract a.toNat (a.toNat + j)).size = j := by
              simp only [ByteArray.size_extract] at hz ⊢
              omega
            exact .inr ⟨hz, by rw [e]; simp only [ByteArray.size_extract] at hz; omega, by rw [e]⟩
        unfold rdV
        split
        · rename_i h
          exact key x1 (by omega)
        · exact key _ hk

set_option maxRecDepth 100000 in
set_option maxHeartbeats 1000000 in
theorem walk_bad (s : ByteArray) (hs : s.size ≤ 140737488351232) (a : Option Addr) (len cap : Nat) (l : List (Int × Int)) (hll : Hid (l.length = len)) (hok : newOk l = false) (at1 n : Int) (w : World) (hst : StepsAt w a l) :
    Calls Try.prog 10 #[.agg #[.string s, .slice a len cap, .int .i64 at1, .int .i64 n]] w fun e w' => e = .returned (.bool true) ∧ Bw w w' := by
  have HOK := hid hok
  clear hok
  have HST := hid (hst.below ((Bw.refl w).alloc (.cells #[.string s, .slice a len cap, .int .i64 at1, .int .i64 n] 73)))
  have HSW := hid hst
  clear hst
  go_enter Try.func10, Try.ntmps10
  go_wp2_with fail
  go_quiet (fail)
  have hb0 : Bw w ((w.alloc (.cells #[.string s, .slice a len cap, .int .i64 at1, .int .i64 n] 73)).drewN nq) := ((Bw.refl w).alloc _).drewN _
  have HS0 := hid (HSW.out.below hb0)
  clear HST HSW
  generalize (w.alloc (.cells #[.string s, .slice a len cap, .int .i64 at1, .int .i64 n] 73)).drewN nq = W0 at *
  go_wp2_with fail
  refine (new_any s a len cap l hll.out _ HS0.out).mono ?_
  intro e w1 h0
  unfold NewPost at h0
  rw [HOK.out] at h0
  obtain ⟨rfl, hb1⟩ := h0
  go_wp2_with fail
  refine (live2_any _).mono ?_
  rintro e w9 ⟨rfl, h9⟩
  go_wp2
  go_returns
  exact ⟨rfl, hb0.trans (Bw.trans hb1 h9)⟩

set_option maxRecDepth 100000 in
set_option maxHeartbeats 1000000 in
theorem walk_e1 (s : ByteArray) (hs : s.size ≤ 140737488351232) (a : Option Addr) (len cap : Nat) (l : List (Int × Int)) (hll : Hid (l.length = len)) (hok : newOk l = true) (at1 n : Int) (l2 : List (Int × Int)) (hr : rdAll s l at1 n = (⟨#[]⟩, 1, l2)) (w : World) (hst : StepsAt w a l) :
    Calls Try.prog 10 #[.agg #[.string s, .slice a len cap, .int .i64 at1, .int .i64 n]] w fun e w' => e = .returned (.bool true) ∧ Bw w w' := by
  have HOK := hid hok
  clear hok
  have HR := hid hr
  clear hr
  have HST := hid (hst.below ((Bw.refl w).alloc (.cells #[.string s, .slice a len cap, .int .i64 at1, .int .i64 n] 73)))
  have HSW := hid hst
  clear hst
  go_enter Try.func10, Try.ntmps10
  go_wp2_with fail
  go_quiet (fail)
  have hb0 : Bw w ((w.alloc (.cells #[.string s, .slice a len cap, .int .i64 at1, .int .i64 n] 73)).drewN nq) := ((Bw.refl w).alloc _).drewN _
  have HS0 := hid (HSW.out.below hb0)
  clear HST HSW
  generalize (w.alloc (.cells #[.string s, .slice a len cap, .int .i64 at1, .int .i64 n] 73)).drewN nq = W0 at *
  go_wp2_with fail
  refine (new_any s a len cap l hll.out _ HS0.out).mono ?_
  intro e w1 h0
  obtain ⟨g, rfl, hF1, hb1⟩ := new_good HOK.out h0
  clear h0
  have HF1 := hid hF1
  clear hF1
  go_wp2_with fail
  refine (readAt_B W0.heap.size g s hs [] (by decide) l (newOk_all HOK.out) at1 n _ _ _ HR.out _ hb1.size HF1.out).mono ?_
  rintro e w2 ⟨rfl, _, hb2⟩
  go_wp2_with fail
  refine (live2_any _).mono ?_
  rintro e w9 ⟨rfl, h9⟩
  go_wp2
  go_returns
  exact ⟨rfl, hb0.trans (Bw.trans (Below.trans hb1 hb2 : Bw W0 w2) h9)⟩

set_option maxRecDepth 100000 in
set_option maxHeartbeats 1000000 in
theorem walk_e7 (s : ByteArray) (hs : s.size ≤ 140737488351232) (a : Option Addr) (len cap : Nat) (l : List (Int × Int)) (hll : Hid (l.length = len)) (hok : newOk l = true) (at1 n : Int) (l2 : List (Int × Int)) (hr : rdAll s l at1 n = (⟨#[]⟩, 7, l2)) (w : World) (hst : StepsAt w a l) :
    Calls Try.prog 10 #[.agg #[.string s, .slice a len cap, .int .i64 at1, .int .i64 n]] w fun e w' => e = .returned (.bool true) ∧ Bw w w' := by
  have HOK := hid hok
  clear hok
  have HR := hid hr
  clear hr
  have HST := hid (hst.below ((Bw.refl w).alloc (.cells #[.string s, .slice a len cap, .int .i64 at1, .int .i64 n] 73)))
  have HSW := hid hst
  clear hst
  go_enter Try.func10, Try.ntmps10
  go_wp2_with fail
  go_quiet (fail)
  have hb0 : Bw w ((w.alloc (.cells #[.string s, .slice a len cap, .int .i64 at1, .int .i64 n] 73)).drewN nq) := ((Bw.refl w).alloc _).drewN _
  have HS0 := hid (HSW.out.below hb0)
  clear HST HSW
  generalize (w.alloc (.cells #[.string s, .slice a len cap, .int .i64 at1, .int .i64 n] 73)).drewN nq = W0 at *
  go_wp2_with fail
  refine (new_any s a len cap l hll.out _ HS0.out).mono ?_
  intro e w1 h0
  obtain ⟨g, rfl, hF1, hb1⟩ := new_good HOK.out h0
  clear h0
  have HF1 := hid hF1
  clear hF1
  go_wp2_with fail
  refine (readAt_B W0.heap.size g s hs [] (by decide) l (newOk_all HOK.out) at1 n _ _ _ HR.out _ hb1.size HF1.out).mono ?_
  rintro e w2 ⟨rfl, _, hb2⟩
  go_wp2_with fail
  refine (live2_any _).mono ?_
  rintro e w9 ⟨rfl, h9⟩
  go_wp2
  go_returns
  exact ⟨rfl, hb0.trans (Bw.trans (Below.trans hb1 hb2 : Bw W0 w2) h9)⟩

set_option maxRecDepth 100000 in
set_option maxHeartbeats 1000000 in
theorem walk_v0 (s : ByteArray) (hs : s.size ≤ 140737488351232) (a : Option Addr) (len cap : Nat) (l : List (Int × Int)) (hll : Hid (l.length = len)) (hok : newOk l = true) (at1 n : Int) (l2 : List (Int × Int)) (hr : rdAll s l at1 n = (⟨#[]⟩, 0, l2)) (hn : 0 ≤ n) (w : World) (hst : StepsAt w a l) :
    Calls Try.prog 10 #[.agg #[.string s, .slice a len cap, .int .i64 at1, .int .i64 n]] w fun e w' => e = .returned (.bool true) ∧ Bw w w' := by
  have HOK := hid hok
  clear hok
  have HR := hid hr
  clear hr
  have HST := hid (hst.below ((Bw.refl w).alloc (.cells #[.string s, .slice a len cap, .int .i64 at1, .int .i64 n] 73)))
  have HSW := hid hst
  clear hst
  go_enter Try.func10, Try.ntmps10
  go_wp2_with fail
  go_quiet (fail)
  have hb0 : Bw w ((w.alloc (.cells #[.string s, .slice a len cap, .int .i64 at1, .int .i64 n] 73)).drewN nq) := ((Bw.refl w).alloc _).drewN _
  have HS0 := hid (HSW.out.below hb0)
  clear HST HSW
  generalize (w.alloc (.cells #[.string s, .slice a len cap, .int .i64 at1, .int .i64 n] 73)).drewN nq = W0 at *
  go_wp2_with fail
  refine (new_any s a len cap l hll.out _ HS0.out).mono ?_
  intro e w1 h0
  obtain ⟨g, rfl, hF1, hb1⟩ := new_good HOK.out h0
  clear h0
  have HF1 := hid hF1
  clear hF1
  go_wp2_with fail
  refine (readAt_B W0.heap.size g s hs [] (by decide) l (newOk_all HOK.out) at1 n _ _ _ HR.out _ hb1.size HF1.out).mono ?_
  rintro e w2 ⟨rfl, _, hb2⟩
  go_wp2_with fail
  refine (live2_any _).mono ?_
  rintro e w9 ⟨rfl, h9⟩
  go_wp2
  go_returns
  exact ⟨rfl, hb0.trans (Bw.trans (Below.trans hb1 hb2 : Bw W0 w2) h9)⟩

set_option maxRecDepth 100000 in
set_option maxHeartbeats 1000000 in
theorem walk_w0 (s : ByteArray) (hs : s.size ≤ 140737488351232) (a : Option Addr) (len cap : Nat) (l : List (Int × Int)) (hll : Hid (l.length = len)) (hok : newOk l = true) (n : Int) (V : ByteArray) (p : Nat) (l2 : List (Int × Int)) (hr : rdAll s l p n = (V, 0, l2)) (hV : V.size ≠ 0) (hVn : (V.size : Int) ≤ n) (hVs : p + V.size ≤ s.size) (hVe : V = s.extract p (p + V.size)) (w : World) (hst : StepsAt w a l) :
    Calls Try.prog 10 #[.agg #[.string s, .slice a len cap, .int .i64 p, .int .i64 n]] w fun e w' => e = .returned (.bool true) ∧ Bw w w' := by
  have HOK := hid hok
  clear hok
  have HR := hid hr
  clear hr
  have q1 : (!V.toList.isEmpty) = true := by
    cases h : (!V.toList.isEmpty) with
    | true => rfl
    | false => exact absurd (V_empty h) hV
  have q2 : V.toList.isEmpty = false := by simpa using q1
  have q3 : ((s.extract p (p + V.size)).toList == V.toList) = true := by rw [← hVe]; simp
  have q4 : V.size ≤ 140737488351232 := by omega
  clear hV hVe
  have HST := hid (hst.below ((Bw.refl w).alloc (.cells #[.string s, .slice a len cap, .int .i64 p, .int .i64 n] 73)))
  have HSW := hid hst
  clear hst
  go_enter Try.func10, Try.ntmps10
  go_wp2_with fail
  go_quiet (fail)
  have hb0 : Bw w ((w.alloc (.cells #[.string s, .slice a len cap, .int .i64 p, .int .i64 n] 73)).drewN nq) := ((Bw.refl w).alloc _).drewN _
  have HS0 := hid (HSW.out.below hb0)
  clear HST HSW
  generalize (w.alloc (.cells #[.string s, .slice a len cap, .int .i64 p, .int .i64 n] 73)).drewN nq = W0 at *
  go_wp2_with fail
  refine (new_any s a len cap l hll.out _ HS0.out).mono ?_
  intro e w1 h0
  obtain ⟨g, rfl, hF1, hb1⟩ := new_good HOK.out h0
  clear h0
  have HF1 := hid hF1
  clear hF1
  go_wp2_with fail
  refine (readAt_B W0.heap.size g s hs [] (by decide) l (newOk_all HOK.out) p n _ _ _ HR.out _ hb1.size HF1.out).mono ?_
  rintro e w2 ⟨rfl, _, hb2⟩
  go_wp2_with fail
  refine (live2_any _).mono ?_
  rintro e w9 ⟨rfl, h9⟩
  go_wp2
  go_returns
  exact ⟨rfl, hb0.trans (Bw.trans (Below.trans hb1 hb2 : Bw W0 w2) h9)⟩

set_option maxRecDepth 100000 in
set_option maxHeartbeats 1000000 in
theorem walk_v2 (s : ByteArray) (hs : s.size ≤ 140737488351232) (a : Option Addr) (len cap : Nat) (l : List (Int × Int)) (hll : Hid (l.length = len)) (hok : newOk l = true) (at1 n : Int) (l2 : List (Int × Int)) (hr : rdAll s l at1 n = (⟨#[]⟩, 2, l2)) (hn : 0 ≤ n) (w : World) (hst : StepsAt w a l) :
    Calls Try.prog 10 #[.agg #[.string s, .slice a len cap, .int .i64 at1, .int .i64 n]] w fun e w' => e = .returned (.bool true) ∧ Bw w w' := by
  have HOK := hid hok
  clear hok
  have HR := hid hr
  clear hr
  have HST := hid (hst.below ((Bw.refl w).alloc (.cells #[.string s, .slice a len cap, .int .i64 at1, .int .i64 n] 73)))
  have HSW := hid hst
  clear hst
  go_enter Try.func10, Try.ntmps10
  go_wp2_with fail
  go_quiet (fail)
  have hb0 : Bw w ((w.alloc (.cells #[.string s, .slice a len cap, .int .i64 at1, .int .i64 n] 73)).drewN nq) := ((Bw.refl w).alloc _).drewN _
  have HS0 := hid (HSW.out.below hb0)
  clear HST HSW
  generalize (w.alloc (.cells #[.string s, .slice a len cap, .int .i64 at1, .int .i64 n] 73)).drewN nq = W0 at *
  go_wp2_with fail
  refine (new_any s a len cap l hll.out _ HS0.out).mono ?_
  intro e w1 h0
  obtain ⟨g, rfl, hF1, hb1⟩ := new_good HOK.out h0
  clear h0
  have HF1 := hid hF1
  clear hF1
  go_wp2_with fail
  refine (readAt_B W0.heap.size g s hs [] (by decide) l (newOk_all HOK.out) at1 n _ _ _ HR.out _ hb1.size HF1.out).mono ?_
  rintro e w2 ⟨rfl, _, hb2⟩
  go_wp2_with fail
  refine (live2_any _).mono ?_
  rintro e w9 ⟨rfl, h9⟩
  go_wp2
  go_returns
  exact ⟨rfl, hb0.trans (Bw.trans (Below.trans hb1 hb2 : Bw W0 w2) h9)⟩

set_option maxRecDepth 100000 in
set_option maxHeartbeats 1000000 in
theorem walk_w2 (s : ByteArray) (hs : s.size ≤ 140737488351232) (a : Option Addr) (len cap : Nat) (l : List (Int × Int)) (hll : Hid (l.length = len)) (hok : newOk l = true) (n : Int) (V : ByteArray) (p : Nat) (l2 : List (Int × Int)) (hr : rdAll s l p n = (V, 2, l2)) (hV : V.size ≠ 0) (hVn : (V.size : Int) ≤ n) (hVs : p + V.size ≤ s.size) (hVe : V = s.extract p (p + V.size)) (w : World) (hst : StepsAt w a l) :
    Calls Try.prog 10 #[.agg #[.string s, .slice a len cap, .int .i64 p, .int .i64 n]] w fun e w' => e = .returned (.bool true) ∧ Bw w w' := by
  have HOK := hid hok
  clear hok
  have HR := hid hr
  clear hr
  have q1 : (!V.toList.isEmpty) = true := by
    cases h : (!V.toList.isEmpty) with
    | true => rfl
    | false => exact absurd (V_empty h) hV
  have q2 : V.toList.isEmpty = false := by simpa using q1
  have q3 : ((s.extract p (p + V.size)).toList == V.toList) = true := by rw [← hVe]; simp
  have q4 : V.size ≤ 140737488351232 := by omega
  clear hV hVe
  have HST := hid (hst.below ((Bw.refl w).alloc (.cells #[.string s, .slice a len cap, .int .i64 p, .int .i64 n] 73)))
  have HSW := hid hst
  clear hst
  go_enter Try.func10, Try.ntmps10
  go_wp2_with fail
  go_quiet (fail)
  have hb0 : Bw w ((w.alloc (.cells #[.string s, .slice a len cap, .int .i64 p, .int .i64 n] 73)).drewN nq) := ((Bw.refl w).alloc _).drewN _
  have HS0 := hid (HSW.out.below hb0)
  clear HST HSW
  generalize (w.alloc (.cells #[.string s, .slice a len cap, .int .i64 p, .int .i64 n] 73)).drewN nq = W0 at *
  go_wp2_with fail
  refine (new_any s a len cap l hll.out _ HS0.out).mono ?_
  intro e w1 h0
  obtain ⟨g, rfl, hF1, hb1⟩ := new_good HOK.out h0
  clear h0
  have HF1 := hid hF1
  clear hF1
  go_wp2_with fail
  refine (readAt_B W0.heap.size g s hs [] (by decide) l (newOk_all HOK.out) p n _ _ _ HR.out _ hb1.size HF1.out).mono ?_
  rintro e w2 ⟨rfl, _, hb2⟩
  go_wp2_with fail
  refine (live2_any _).mono ?_
  rintro e w9 ⟨rfl, h9⟩
  go_wp2
  go_returns
  exact ⟨rfl, hb0.trans (Bw.trans (Below.trans hb1 hb2 : Bw W0 w2) h9)⟩

theorem walk (s : ByteArray) (hs : s.size ≤ 140737488351232) (a : Option Addr) (len cap : Nat) (l : List (Int × Int)) (hll : l.length = len) (at1 n : Int) (w : World) (hst : StepsAt w a l) :
    Calls Try.prog 10 #[.agg #[.string s, .slice a len cap, .int .i64 at1, .int .i64 n]] w fun e w' => e = .returned (.bool true) ∧ Bw w w' := by
  cases hok : newOk l with
  | false => exact walk_bad s hs a len cap l (hid hll) hok at1 n w hst
  | true =>
    have hf := rdAll_facts s l at1 n
    obtain ⟨V, E, l2, hr⟩ : ∃ V E l2, rdAll s l at1 n = (V, E, l2) := ⟨_, _, _, rfl⟩
    rw [hr] at hf
    simp only at hf
    rcases hf with ⟨rfl, rfl | rfl⟩ | ⟨hE, h0, h1, h2, hV⟩
    · exact walk_e1 s hs a len cap l (hid hll) hok at1 n l2 hr w hst
    · exact walk_e7 s hs a len cap l (hid hll) hok at1 n l2 hr w hst
    · obtain ⟨p, rfl⟩ := Int.eq_ofNat_of_zero_le h0
      rw [Int.toNat_natCast] at hV
      rcases hV with rfl | ⟨g1, g2, g3⟩
      · rcases hE with rfl | rfl
        · exact walk_v0 s hs a len cap l (hid hll) hok p n l2 hr h1 w hst
        · exact walk_v2 s hs a len cap l (hid hll) hok p n l2 hr h1 w hst
      · rcases hE with rfl | rfl
        · exact walk_w0 s hs a len cap l (hid hll) hok n V p l2 hr g1 h2 g2 g3 w hst
        · exact walk_w2 s hs a len cap l (hid hll) hok n V p l2 hr g1 h2 g2 g3 w hst

/-! The frame: from the walk to the statement. -/
theorem own : ownKnob Try.prog.godebug = none := by kernel_rfl
theorem laidOut : laidOutB Try.prog = true := by kernel_rfl
set_option maxRecDepth 100000 in
theorem lifted (os : Os) (started : os.Started) (H : Type) (enc : TypeId × Value → H) :
    ReturnsInHanded {} Try.checked os 10 .any (Rows.srcStandsSpec.pre6 enc Try.prog Try.f10 Rows.srcStandsRow.domain false) (Rows.srcStandsSpec.post enc Try.prog Try.f10 false true false false) := by
  refine returnsInHanded_of_change_sized (C := Try.checked) own started (by kernel_rfl) Try.func10
    (ChangeSpec.witness6 (enc := enc) (C := Try.checked) false ⟨#[], #[.agg #[.string ⟨#[]⟩, .slice none 0 0, .int .i64 0, .int .i64 0]], []⟩ 8 (by kernel_rfl) (by kernel_rfl) (by kernel_rfl) (by kernel_rfl)) ?_
  intro W base args ds gs before hval0 hW hcnd hsz0 _
  have hval : ∀ (j : Nat) t v, Try.f10.params[j]? = some t → args[j]? = some v → Value.okWide Try.prog W .any base t v := hval0
  have hW' := hW
  obtain ⟨p, q, hA0, hV, rfl, hfz, hnd⟩ := hW
  have hA : DataW.TrodAll enc Try.prog W 0 (fun _ => true) true Try.f10.params.toList args.toList ds p := hA0
  have hsz : (DataW.weightsEach Try.prog (Try.f10.params.toList ++ Rows.srcStandsSpec.plain.varTypes Try.prog) (ds ++ gs)).all (· ≤ reachBytes) = true := hsz0
  rw [Try.params10] at hA hval hsz
  obtain ⟨v0, d0, rfl, rfl, h0⟩ := trodAll_one hA
  obtain ⟨rfl, rfl⟩ := trodVars_none hV
  have k0 := h0
  have lt0 : ∀ x ∈ p, x.block < W.heap.size := by obtain ⟨m, hm⟩ := k0; exact DataW.trod_lt m _ _ _ hm
  obtain ⟨cs, ds, rfl, hlen, rfl, hdl, hf⟩ := open_struct Try.underlying73 (by kernel_rfl) (by kernel_rfl) (hval 0 73 v0 rfl rfl) h0
  obtain ⟨x0, c0, e0⟩ := hf.string 0 rfl Try.underlying9
  have z0 := string_reach hsz (j := 0) (i := 0) rfl rfl Try.underlying73 rfl e0
  obtain ⟨x1, y1, m1, c1, _, t1⟩ := hf 1 _ rfl
  obtain ⟨A1, len1, cap1, l1, rfl, hll1, hst1⟩ := open_steps t1
  obtain ⟨x2, c2, e2, w2⟩ := hf.int 2 rfl Try.underlying3
  obtain ⟨x3, c3, e3, w3⟩ := hf.int 3 rfl Try.underlying3
  obtain rfl := list4 hlen c0 c1 c2 c3
  clear hA0 hval0
  try simp only [List.append_nil] at hW'
  refine (walk x0 z0 A1 len1 cap1 l1 hll1 x2 x3 W hst1).mono fun e W' ⟨he, bel⟩ => ?_
  subst he
  exact ⟨_, rfl, _, _, _, [], _, [], hW', trodAll_mk1 (shut_bool Try.underlying4 _), trodAll_mk1 (Below.trod laidOut (by kernel_rfl) (of_decide_eq_true (by kernel_rfl)) k0 bel lt0), rfl, Below.frame bel _, fun h => by cases h⟩

theorem proved : Rows.SrcStandsSaid :=
  OpenClaim.holds_of_wide 10 Try.f10 rfl rfl rfl rfl rfl rfl rfl ⟨rfl, rfl, rfl, rfl, rfl⟩ rfl rfl rfl rfl rfl (by kernel_rfl) Try.func10 (by kernel_rfl)
    (of_decide_eq_true (by kernel_rfl)) (by unfold Func.isWrapper; first | (rw [if_pos (by decide +kernel)]; kernel_rfl) | (rw [if_neg (by decide +kernel)]; exact ⟨rfl, rfl⟩))
    (fun os started H enc _ => lifted os started H enc)
end Go.Proofs.Ytiflbjflgleljaa.srcStands

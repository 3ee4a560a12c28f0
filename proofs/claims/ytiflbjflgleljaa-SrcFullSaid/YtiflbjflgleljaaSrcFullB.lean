/- SrcFull where the place or the number is none. -/
import Derived.Test.YtiflbjflgleljaaSrcFullA
import Derived.ProofKit
import Derived.OpenShut
import Derived.ShutString
import Derived.ChangeOld
namespace Go.Proofs.Ytiflbjflgleljaa.srcFull
open Go.RowKit Go.ChangeShapes Go.WideShapes Go.ChangeAt
set_option linter.unusedVariables false

set_option maxRecDepth 100000 in
set_option maxHeartbeats 2000000 in
theorem walk_bad1 (s : ByteArray) (hs : s.size ≤ 140737488351232) (A : Option Addr) (len cap : Nat) (hlen : len ≤ 9223372036854775807) (zs : List Int) (hll : Hid (zs.length = len)) (at1 n : Int) (b1 : -9223372036854775808 ≤ at1) (b2 : at1 < 0) (b3 : -9223372036854775808 ≤ n) (b4 : n ≤ 9223372036854775807) (w : World) (hst : IntsAt w A zs) :
    Calls Try.prog 11 #[.agg #[.string s, .slice A len cap, .int .i64 at1, .int .i64 n]] w fun e w' => e = .returned (.bool true) ∧ Bw w w' := by
  obtain ⟨i0, hi, hz0, hz1, hz2⟩ := info_parts stepInfo
  have HSW := hid hst
  clear hst
  go_enter Try.func11, Try.ntmps11
  go_wp2_with fail
  go_quiet (fail)
  have hb0 : Bw w ((w.alloc (.cells #[.string s, .slice A len cap, .int .i64 at1, .int .i64 n] 77)).drewN nq) := ((Bw.refl w).alloc _).drewN _
  have HS0 := hid (HSW.out.below hb0)
  clear HSW
  generalize (w.alloc (.cells #[.string s, .slice A len cap, .int .i64 at1, .int .i64 n] 77)).drewN nq = W0 at *
  go_wp2_with fail
  go_loopw [7, 8] (fun v i wr => ∃ k : Nat, k ≤ len ∧ k ≤ 200 ∧ i = .int .i64 k ∧ wr.ownsRow W0.heap.size 60 2 v k (scrCells (scr zs k)) ∧ Bw W0 wr ∧ Pos zs k) (fun _ i _ => 201 - (intOf i).toNat)
  case atStart => exact ⟨0, Nat.zero_le _, by omega, rfl, World.ownsRow_nil _ _ _ _, Bw.refl _, fun x hx => by simp [scr] at hx⟩
  case round =>
    obtain ⟨k, hk, hk2, rfl, hown, hbw, hpos⟩ := hrel
    have HOW := hid hown
    have HPO := hid hpos
    have HBW := hid hbw
    have hbz : W0.heap.size ≤ wr.heap.size := hbw.size
    clear hown hpos hbw
    by_cases hlt : k < len
    · by_cases h200 : k < 200
      · have hkz : k < zs.length := by rw [hll.out]; exact hlt
        obtain ⟨bb, off, rfl, hbb, hcc⟩ := (HS0.out.below HBW.out) k hkz
        obtain ⟨z, hz⟩ : ∃ z, zs[k] = z := ⟨_, rfl⟩
        rw [hz] at hcc
        have HZ := hid hz
        clear hz
        by_cases hneg : z < 0
        · go_wp2_with fail
          refine (live2_any _).mono ?_
          rintro e w9 ⟨rfl, h9⟩
          go_wp2
          go_returns
          exact ⟨rfl, hb0.trans (HBW.out.trans h9)⟩
        · go_wp2_with (at_builtin; refine wpList_append_own_at _ rfl (.tmp 37) (.tmp 43) 51 rfl W0.heap.size 60 i0 (.agg #[.int .i64 0, .int .i64 0]) 2 16 Try.underlying51 hi hz0 hz1 hz2 rfl (by decide) _ k (scrCells (scr zs k)) rfl (HOW.out.alloc _) ⟨wr.heap.size, 0, none⟩ 1 1 [.int .i64 1, .int .i64 z] rfl rfl (own_two _ _ _ _) (by intro u hu; simp at hu; rcases hu with rfl | rfl <;> rfl) (by unfold maxLen; omega) (by omega) (by simp; omega) ?_; intro v' w5 hown5 hgrow5 _ _)
          go_roundw
          case rel =>
            refine ⟨k + 1, by omega, by omega, by go_num, ?_, ?_, ?_⟩
            · rw [scr_succ zs k hkz, HZ.out]
              have e : scrCells (scr zs k ++ [(1, z)]) = scrCells (scr zs k) ++ [.int .i64 1, .int .i64 z] := by simp [scrCells]
              rw [e]
              exact hown5
            · exact Below.trans (HBW.out.alloc _) (own_grown HOW.out hgrow5 (by simp; omega))
            · intro x hx
              rw [scr_succ zs k hkz, HZ.out] at hx
              rcases List.mem_append.1 hx with h | h
              · exact HPO.out x h
              · rw [List.mem_singleton.1 h]; exact ⟨rfl, by show 0 ≤ z; omega⟩
          case measure => simp [intOf]; omega
      · have d1 : decide ((k : Int) < 200) = false := by simp; omega
        have hkz : k ≤ zs.length := by rw [hll.out]; exact hk
        have hOK := hid (pos_ok hkz hk2 HPO.out)
        have hSL := hid (scr_len zs k hkz)
        have hSH : Hid (Shorts (scr zs k)) := hid HPO.out
        have how2 := HOW.out
        rw [← hSL.out] at how2
        obtain ⟨a2, cap2, rfl, hst2⟩ := own_steps (l := scr zs k) (by rw [hSL.out] at how2 ⊢; exact how2)
        rw [hSL.out]
        have HST2 := hid hst2
        clear hst2 how2 HOW
        go_wp2_with fail
        refine (new_any s a2 k cap2 (scr zs k) hSL.out _ HST2.out).mono ?_
        intro e w1 h0
        obtain ⟨g, rfl, hF1, hb1⟩ := new_good hOK.out h0
        clear h0
        have HF1 := hid hF1
        clear hF1
        go_wp2_with fail
        refine (full_bad g at1 n (by omega) (by omega) (by omega) (by omega) (.inl b2) _).mono ?_
        rintro e w2 ⟨rfl, hb2⟩
        go_wp2_with fail
        refine (live2_any _).mono ?_
        rintro e w9 ⟨rfl, h9⟩
        go_wp2
        go_returns
        exact ⟨rfl, hb0.trans (HBW.out.trans (Bw.trans (Bw.trans hb1 hb2) h9))⟩
    · have hkz : k ≤ zs.length := by rw [hll.out]; exact hk
      have hOK := hid (pos_ok hkz hk2 HPO.out)
      have hSL := hid (scr_len zs k hkz)
      have hSH : Hid (Shorts (scr zs k)) := hid HPO.out
      have how2 := HOW.out
      rw [← hSL.out] at how2
      obtain ⟨a2, cap2, rfl, hst2⟩ := own_steps (l := scr zs k) (by rw [hSL.out] at how2 ⊢; exact how2)
      rw [hSL.out]
      have HST2 := hid hst2
      clear hst2 how2 HOW
      go_wp2_with fail
      refine (new_any s a2 k cap2 (scr zs k) hSL.out _ HST2.out).mono ?_
      intro e w1 h0
      obtain ⟨g, rfl, hF1, hb1⟩ := new_good hOK.out h0
      clear h0
      have HF1 := hid hF1
      clear hF1
      go_wp2_with fail
      refine (full_bad g at1 n (by omega) (by omega) (by omega) (by omega) (.inl b2) _).mono ?_
      rintro e w2 ⟨rfl, hb2⟩
      go_wp2_with fail
      refine (live2_any _).mono ?_
      rintro e w9 ⟨rfl, h9⟩
      go_wp2
      go_returns
      exact ⟨rfl, hb0.trans (HBW.out.trans (Bw.trans (Bw.trans hb1 hb2) h9))⟩

set_option maxRecDepth 100000 in
set_option maxHeartbeats 2000000 in
theorem walk_bad2 (s : ByteArray) (hs : s.size ≤ 140737488351232) (A : Option Addr) (len cap : Nat) (hlen : len ≤ 9223372036854775807) (zs : List Int) (hll : Hid (zs.length = len)) (p : Nat) (n : Int) (b1 : p ≤ 9223372036854775807) (b2 : n < 0) (b3 : -9223372036854775808 ≤ n) (w : World) (hst : IntsAt w A zs) :
    Calls Try.prog 11 #[.agg #[.string s, .slice A len cap, .int .i64 p, .int .i64 n]] w fun e w' => e = .returned (.bool true) ∧ Bw w w' := by
  obtain ⟨i0, hi, hz0, hz1, hz2⟩ := info_parts stepInfo
  have HSW := hid hst
  clear hst
  go_enter Try.func11, Try.ntmps11
  go_wp2_with fail
  go_quiet (fail)
  have hb0 : Bw w ((w.alloc (.cells #[.string s, .slice A len cap, .int .i64 p, .int .i64 n] 77)).drewN nq) := ((Bw.refl w).alloc _).drewN _
  have HS0 := hid (HSW.out.below hb0)
  clear HSW
  generalize (w.alloc (.cells #[.string s, .slice A len cap, .int .i64 p, .int .i64 n] 77)).drewN nq = W0 at *
  go_wp2_with fail
  go_loopw [7, 8] (fun v i wr => ∃ k : Nat, k ≤ len ∧ k ≤ 200 ∧ i = .int .i64 k ∧ wr.ownsRow W0.heap.size 60 2 v k (scrCells (scr zs k)) ∧ Bw W0 wr ∧ Pos zs k) (fun _ i _ => 201 - (intOf i).toNat)
  case atStart => exact ⟨0, Nat.zero_le _, by omega, rfl, World.ownsRow_nil _ _ _ _, Bw.refl _, fun x hx => by simp [scr] at hx⟩
  case round =>
    obtain ⟨k, hk, hk2, rfl, hown, hbw, hpos⟩ := hrel
    have HOW := hid hown
    have HPO := hid hpos
    have HBW := hid hbw
    have hbz : W0.heap.size ≤ wr.heap.size := hbw.size
    clear hown hpos hbw
    by_cases hlt : k < len
    · by_cases h200 : k < 200
      · have hkz : k < zs.length := by rw [hll.out]; exact hlt
        obtain ⟨bb, off, rfl, hbb, hcc⟩ := (HS0.out.below HBW.out) k hkz
        obtain ⟨z, hz⟩ : ∃ z, zs[k] = z := ⟨_, rfl⟩
        rw [hz] at hcc
        have HZ := hid hz
        clear hz
        by_cases hneg : z < 0
        · go_wp2_with fail
          refine (live2_any _).mono ?_
          rintro e w9 ⟨rfl, h9⟩
          go_wp2
          go_returns
          exact ⟨rfl, hb0.trans (HBW.out.trans h9)⟩
        · go_wp2_with (at_builtin; refine wpList_append_own_at _ rfl (.tmp 37) (.tmp 43) 51 rfl W0.heap.size 60 i0 (.agg #[.int .i64 0, .int .i64 0]) 2 16 Try.underlying51 hi hz0 hz1 hz2 rfl (by decide) _ k (scrCells (scr zs k)) rfl (HOW.out.alloc _) ⟨wr.heap.size, 0, none⟩ 1 1 [.int .i64 1, .int .i64 z] rfl rfl (own_two _ _ _ _) (by intro u hu; simp at hu; rcases hu with rfl | rfl <;> rfl) (by unfold maxLen; omega) (by omega) (by simp; omega) ?_; intro v' w5 hown5 hgrow5 _ _)
          go_roundw
          case rel =>
            refine ⟨k + 1, by omega, by omega, by go_num, ?_, ?_, ?_⟩
            · rw [scr_succ zs k hkz, HZ.out]
              have e : scrCells (scr zs k ++ [(1, z)]) = scrCells (scr zs k) ++ [.int .i64 1, .int .i64 z] := by simp [scrCells]
              rw [e]
              exact hown5
            · exact Below.trans (HBW.out.alloc _) (own_grown HOW.out hgrow5 (by simp; omega))
            · intro x hx
              rw [scr_succ zs k hkz, HZ.out] at hx
              rcases List.mem_append.1 hx with h | h
              · exact HPO.out x h
              · rw [List.mem_singleton.1 h]; exact ⟨rfl, by show 0 ≤ z; omega⟩
          case measure => simp [intOf]; omega
      · have d1 : decide ((k : Int) < 200) = false := by simp; omega
        have hkz : k ≤ zs.length := by rw [hll.out]; exact hk
        have hOK := hid (pos_ok hkz hk2 HPO.out)
        have hSL := hid (scr_len zs k hkz)
        have hSH : Hid (Shorts (scr zs k)) := hid HPO.out
        have how2 := HOW.out
        rw [← hSL.out] at how2
        obtain ⟨a2, cap2, rfl, hst2⟩ := own_steps (l := scr zs k) (by rw [hSL.out] at how2 ⊢; exact how2)
        rw [hSL.out]
        have HST2 := hid hst2
        clear hst2 how2 HOW
        go_wp2_with fail
        refine (new_any s a2 k cap2 (scr zs k) hSL.out _ HST2.out).mono ?_
        intro e w1 h0
        obtain ⟨g, rfl, hF1, hb1⟩ := new_good hOK.out h0
        clear h0
        have HF1 := hid hF1
        clear hF1
        go_wp2_with fail
        refine (full_bad g p n (by omega) (by omega) (by omega) (by omega) (.inr (.inl b2)) _).mono ?_
        rintro e w2 ⟨rfl, hb2⟩
        go_wp2_with fail
        refine (live2_any _).mono ?_
        rintro e w9 ⟨rfl, h9⟩
        go_wp2
        go_returns
        exact ⟨rfl, hb0.trans (HBW.out.trans (Bw.trans (Bw.trans hb1 hb2) h9))⟩
    · have hkz : k ≤ zs.length := by rw [hll.out]; exact hk
      have hOK := hid (pos_ok hkz hk2 HPO.out)
      have hSL := hid (scr_len zs k hkz)
      have hSH : Hid (Shorts (scr zs k)) := hid HPO.out
      have how2 := HOW.out
      rw [← hSL.out] at how2
      obtain ⟨a2, cap2, rfl, hst2⟩ := own_steps (l := scr zs k) (by rw [hSL.out] at how2 ⊢; exact how2)
      rw [hSL.out]
      have HST2 := hid hst2
      clear hst2 how2 HOW
      go_wp2_with fail
      refine (new_any s a2 k cap2 (scr zs k) hSL.out _ HST2.out).mono ?_
      intro e w1 h0
      obtain ⟨g, rfl, hF1, hb1⟩ := new_good hOK.out h0
      clear h0
      have HF1 := hid hF1
      clear hF1
      go_wp2_with fail
      refine (full_bad g p n (by omega) (by omega) (by omega) (by omega) (.inr (.inl b2)) _).mono ?_
      rintro e w2 ⟨rfl, hb2⟩
      go_wp2_with fail
      refine (live2_any _).mono ?_
      rintro e w9 ⟨rfl, h9⟩
      go_wp2
      go_returns
      exact ⟨rfl, hb0.trans (HBW.out.trans (Bw.trans (Bw.trans hb1 hb2) h9))⟩

set_option maxRecDepth 100000 in
set_option maxHeartbeats 2000000 in
theorem walk_bad3 (s : ByteArray) (hs : s.size ≤ 140737488351232) (A : Option Addr) (len cap : Nat) (hlen : len ≤ 9223372036854775807) (zs : List Int) (hll : Hid (zs.length = len)) (p n : Nat) (b1 : p ≤ 9223372036854775807) (b2 : 1048576 < n) (b3 : n ≤ 9223372036854775807) (w : World) (hst : IntsAt w A zs) :
    Calls Try.prog 11 #[.agg #[.string s, .slice A len cap, .int .i64 p, .int .i64 n]] w fun e w' => e = .returned (.bool true) ∧ Bw w w' := by
  obtain ⟨i0, hi, hz0, hz1, hz2⟩ := info_parts stepInfo
  have HSW := hid hst
  clear hst
  go_enter Try.func11, Try.ntmps11
  go_wp2_with fail
  go_quiet (fail)
  have hb0 : Bw w ((w.alloc (.cells #[.string s, .slice A len cap, .int .i64 p, .int .i64 n] 77)).drewN nq) := ((Bw.refl w).alloc _).drewN _
  have HS0 := hid (HSW.out.below hb0)
  clear HSW
  generalize (w.alloc (.cells #[.string s, .slice A len cap, .int .i64 p, .int .i64 n] 77)).drewN nq = W0 at *
  go_wp2_with fail
  go_loopw [7, 8] (fun v i wr => ∃ k : Nat, k ≤ len ∧ k ≤ 200 ∧ i = .int .i64 k ∧ wr.ownsRow W0.heap.size 60 2 v k (scrCells (scr zs k)) ∧ Bw W0 wr ∧ Pos zs k) (fun _ i _ => 201 - (intOf i).toNat)
  case atStart => exact ⟨0, Nat.zero_le _, by omega, rfl, World.ownsRow_nil _ _ _ _, Bw.refl _, fun x hx => by simp [scr] at hx⟩
  case round =>
    obtain ⟨k, hk, hk2, rfl, hown, hbw, hpos⟩ := hrel
    have HOW := hid hown
    have HPO := hid hpos
    have HBW := hid hbw
    have hbz : W0.heap.size ≤ wr.heap.size := hbw.size
    clear hown hpos hbw
    by_cases hlt : k < len
    · by_cases h200 : k < 200
      · have hkz : k < zs.length := by rw [hll.out]; exact hlt
        obtain ⟨bb, off, rfl, hbb, hcc⟩ := (HS0.out.below HBW.out) k hkz
        obtain ⟨z, hz⟩ : ∃ z, zs[k] = z := ⟨_, rfl⟩
        rw [hz] at hcc
        have HZ := hid hz
        clear hz
        by_cases hneg : z < 0
        · go_wp2_with fail
          refine (live2_any _).mono ?_
          rintro e w9 ⟨rfl, h9⟩
          go_wp2
          go_returns
          exact ⟨rfl, hb0.trans (HBW.out.trans h9)⟩
        · go_wp2_with (at_builtin; refine wpList_append_own_at _ rfl (.tmp 37) (.tmp 43) 51 rfl W0.heap.size 60 i0 (.agg #[.int .i64 0, .int .i64 0]) 2 16 Try.underlying51 hi hz0 hz1 hz2 rfl (by decide) _ k (scrCells (scr zs k)) rfl (HOW.out.alloc _) ⟨wr.heap.size, 0, none⟩ 1 1 [.int .i64 1, .int .i64 z] rfl rfl (own_two _ _ _ _) (by intro u hu; simp at hu; rcases hu with rfl | rfl <;> rfl) (by unfold maxLen; omega) (by omega) (by simp; omega) ?_; intro v' w5 hown5 hgrow5 _ _)
          go_roundw
          case rel =>
            refine ⟨k + 1, by omega, by omega, by go_num, ?_, ?_, ?_⟩
            · rw [scr_succ zs k hkz, HZ.out]
              have e : scrCells (scr zs k ++ [(1, z)]) = scrCells (scr zs k) ++ [.int .i64 1, .int .i64 z] := by simp [scrCells]
              rw [e]
              exact hown5
            · exact Below.trans (HBW.out.alloc _) (own_grown HOW.out hgrow5 (by simp; omega))
            · intro x hx
              rw [scr_succ zs k hkz, HZ.out] at hx
              rcases List.mem_append.1 hx with h | h
              · exact HPO.out x h
              · rw [List.mem_singleton.1 h]; exact ⟨rfl, by show 0 ≤ z; omega⟩
          case measure => simp [intOf]; omega
      · have d1 : decide ((k : Int) < 200) = false := by simp; omega
        have hkz : k ≤ zs.length := by rw [hll.out]; exact hk
        have hOK := hid (pos_ok hkz hk2 HPO.out)
        have hSL := hid (scr_len zs k hkz)
        have hSH : Hid (Shorts (scr zs k)) := hid HPO.out
        have how2 := HOW.out
        rw [← hSL.out] at how2
        obtain ⟨a2, cap2, rfl, hst2⟩ := own_steps (l := scr zs k) (by rw [hSL.out] at how2 ⊢; exact how2)
        rw [hSL.out]
        have HST2 := hid hst2
        clear hst2 how2 HOW
        go_wp2_with fail
        refine (new_any s a2 k cap2 (scr zs k) hSL.out _ HST2.out).mono ?_
        intro e w1 h0
        obtain ⟨g, rfl, hF1, hb1⟩ := new_good hOK.out h0
        clear h0
        have HF1 := hid hF1
        clear hF1
        go_wp2_with fail
        refine (full_bad g p n (by omega) (by omega) (by omega) (by omega) (.inr (.inr (by omega))) _).mono ?_
        rintro e w2 ⟨rfl, hb2⟩
        go_wp2_with fail
        refine (live2_any _).mono ?_
        rintro e w9 ⟨rfl, h9⟩
        go_wp2
        go_returns
        exact ⟨rfl, hb0.trans (HBW.out.trans (Bw.trans (Bw.trans hb1 hb2) h9))⟩
    · have hkz : k ≤ zs.length := by rw [hll.out]; exact hk
      have hOK := hid (pos_ok hkz hk2 HPO.out)
      have hSL := hid (scr_len zs k hkz)
      have hSH : Hid (Shorts (scr zs k)) := hid HPO.out
      have how2 := HOW.out
      rw [← hSL.out] at how2
      obtain ⟨a2, cap2, rfl, hst2⟩ := own_steps (l := scr zs k) (by rw [hSL.out] at how2 ⊢; exact how2)
      rw [hSL.out]
      have HST2 := hid hst2
      clear hst2 how2 HOW
      go_wp2_with fail
      refine (new_any s a2 k cap2 (scr zs k) hSL.out _ HST2.out).mono ?_
      intro e w1 h0
      obtain ⟨g, rfl, hF1, hb1⟩ := new_good hOK.out h0
      clear h0
      have HF1 := hid hF1
      clear hF1
      go_wp2_with fail
      refine (full_bad g p n (by omega) (by omega) (by omega) (by omega) (.inr (.inr (by omega))) _).mono ?_
      rintro e w2 ⟨rfl, hb2⟩
      go_wp2_with fail
      refine (live2_any _).mono ?_
      rintro e w9 ⟨rfl, h9⟩
      go_wp2
      go_returns
      exact ⟨rfl, hb0.trans (HBW.out.trans (Bw.trans (Bw.trans hb1 hb2) h9))⟩
end Go.Proofs.Ytiflbjflgleljaa.srcFull

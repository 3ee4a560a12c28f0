/- huff.count for any numbers; Check (contracts of the functions). -/
import Derived.Test.YtacgnadhpgkcmaaDoorHufA1
import Derived.Test.YtacgnadhpgkcmaaDoorHufA2
import Derived.Test.YtacgnadhpgkcmaaDoorHufA3
import Derived.Test.YtacgnadhpgkcmaaDoorHufB
namespace Go.Proofs.YtacgnadhpgkcmaaDoor
open Go.RowKit
set_option linter.unusedVariables false
theorem talArr_eq (l : List Int) : talArr l = #[.int .i64 (tal l 0 : Nat), .int .i64 (tal l 1 : Nat), .int .i64 (tal l 2 : Nat), .int .i64 (tal l 3 : Nat), .int .i64 (tal l 4 : Nat), .int .i64 (tal l 5 : Nat), .int .i64 (tal l 6 : Nat), .int .i64 (tal l 7 : Nat), .int .i64 (tal l 8 : Nat), .int .i64 (tal l 9 : Nat), .int .i64 (tal l 10 : Nat), .int .i64 (tal l 11 : Nat), .int .i64 (tal l 12 : Nat), .int .i64 (tal l 13 : Nat), .int .i64 (tal l 14 : Nat), .int .i64 (tal l 15 : Nat)] := by simp [talArr, List.range, List.range.loop]
theorem count_any (a : Option Addr) (len cap : Nat) (l : List Int) (hll : Hid (l.length = len)) (w : World) (hst : ZsAt w a l) :
    Calls Tryd.prog 54 #[.slice a len cap] w fun e w' => e = .returned (.tuple #[cntV l, .bool (okLens l)]) ∧ Bw w w' := by
  by_cases h320 : 320 < len
  · have hok : okLens l = false := by unfold okLens; rw [decide_eq_false (by rw [hll.out]; omega)]; rfl
    have e1 : cntV l = .agg #[.int .i64 0, .int .i64 0, .int .i64 0, .int .i64 0, .int .i64 0, .int .i64 0, .int .i64 0, .int .i64 0, .int .i64 0, .int .i64 0, .int .i64 0, .int .i64 0, .int .i64 0, .int .i64 0, .int .i64 0, .int .i64 0] := by unfold cntV; rw [hok]; rfl
    rw [e1, hok]
    exact count_big a len cap h320 w
  · have hal : okLens l = l.all lenB := by unfold okLens; rw [decide_eq_true (by rw [hll.out]; omega), Bool.true_and]
    cases hA : l.all lenB with
    | true =>
      have hok := hal.trans hA
      have e1 : cntV l = .agg #[.int .i64 (tal l 0 : Nat), .int .i64 (tal l 1 : Nat), .int .i64 (tal l 2 : Nat), .int .i64 (tal l 3 : Nat), .int .i64 (tal l 4 : Nat), .int .i64 (tal l 5 : Nat), .int .i64 (tal l 6 : Nat), .int .i64 (tal l 7 : Nat), .int .i64 (tal l 8 : Nat), .int .i64 (tal l 9 : Nat), .int .i64 (tal l 10 : Nat), .int .i64 (tal l 11 : Nat), .int .i64 (tal l 12 : Nat), .int .i64 (tal l 13 : Nat), .int .i64 (tal l 14 : Nat), .int .i64 (tal l 15 : Nat)] := by unfold cntV; rw [hok, if_pos rfl, talArr_eq]
      rw [e1, hok]
      exact count_good a len cap (by omega) l hll (fun i h _ => List.all_eq_true.1 hA _ (List.getElem_mem h)) w hst
    | false =>
      have hok := hal.trans hA
      have e1 : cntV l = .agg #[.int .i64 0, .int .i64 0, .int .i64 0, .int .i64 0, .int .i64 0, .int .i64 0, .int .i64 0, .int .i64 0, .int .i64 0, .int .i64 0, .int .i64 0, .int .i64 0, .int .i64 0, .int .i64 0, .int .i64 0, .int .i64 0] := by unfold cntV; rw [hok]; rfl
      rw [e1, hok]
      obtain ⟨x, hx, hb⟩ : ∃ x ∈ l, lenB x = false := by
        rw [← Bool.not_eq_true, List.all_eq_true] at hA
        rcases Classical.em (∃ x ∈ l, lenB x = false) with h | h
        · exact h
        · exact absurd (fun x hx => by
            cases hc : lenB x with
            | true => rfl
            | false => exact absurd ⟨x, hx, hc⟩ h) hA
      have hj : l.findIdx (fun x => !lenB x) < l.length := List.findIdx_lt_length.2 ⟨x, hx, by rw [hb]; rfl⟩
      have hbj := List.findIdx_getElem (w := hj)
      have hall : ∀ i (h : i < l.length), i < l.findIdx (fun x => !lenB x) → lenB l[i] = true := fun i h hi => by
        have := List.not_of_lt_findIdx hi
        simpa using this
      have hbf : lenB (l[l.findIdx (fun x => !lenB x)]) = false := by simpa using hbj
      have hn := of_decide_eq_false hbf
      by_cases h0 : l[l.findIdx (fun x => !lenB x)] < 0
      · exact count_neg a len cap (by omega) l hll _ hj hall h0 w hst
      · exact count_great a len cap (by omega) l hll _ hj hall (by omega) w hst
def checkE (l : List Int) : Int := if okLens l then (if codeB l then 0 else 3) else 1
set_option maxRecDepth 100000 in
set_option maxHeartbeats 4000000 in
theorem check_any (a : Option Addr) (len cap : Nat) (l : List Int) (hll : Hid (l.length = len)) (w : World) (hst : ZsAt w a l) :
    Calls Tryd.prog 53 #[.slice a len cap] w fun e w' => e = .returned (.int .i64 (checkE l)) ∧ Bw w w' := by
  have HC := hid (count_any a len cap l hll w hst)
  cases hok : okLens l with
  | false =>
    have e1 : cntV l = .agg #[.int .i64 0, .int .i64 0, .int .i64 0, .int .i64 0, .int .i64 0, .int .i64 0, .int .i64 0, .int .i64 0, .int .i64 0, .int .i64 0, .int .i64 0, .int .i64 0, .int .i64 0, .int .i64 0, .int .i64 0, .int .i64 0] := by unfold cntV; rw [hok]; rfl
    have e2 : checkE l = 1 := by unfold checkE; rw [hok]; rfl
    rw [e1, hok] at HC
    rw [e2]
    clear e1 e2 hok hst
    go_enter Tryd.func53, Tryd.ntmps53
    go_wp2_with fail
    refine HC.out.mono ?_
    rintro e w2 ⟨rfl, hb⟩
    have HB := hid (hb.alloc (.cells #[.int .i64 0, .int .i64 0, .int .i64 0, .int .i64 0, .int .i64 0, .int .i64 0, .int .i64 0, .int .i64 0, .int .i64 0, .int .i64 0, .int .i64 0, .int .i64 0, .int .i64 0, .int .i64 0, .int .i64 0, .int .i64 0] 106))
    clear hb
    go_wp2
    go_returns
    exact ⟨rfl, HB.out⟩
  | true =>
    have e1 : cntV l = .agg #[.int .i64 (tal l 0 : Nat), .int .i64 (tal l 1 : Nat), .int .i64 (tal l 2 : Nat), .int .i64 (tal l 3 : Nat), .int .i64 (tal l 4 : Nat), .int .i64 (tal l 5 : Nat), .int .i64 (tal l 6 : Nat), .int .i64 (tal l 7 : Nat), .int .i64 (tal l 8 : Nat), .int .i64 (tal l 9 : Nat), .int .i64 (tal l 10 : Nat), .int .i64 (tal l 11 : Nat), .int .i64 (tal l 12 : Nat), .int .i64 (tal l 13 : Nat), .int .i64 (tal l 14 : Nat), .int .i64 (tal l 15 : Nat)] := by unfold cntV; rw [hok, if_pos rfl, talArr_eq]
    have e2 : checkE l = if codeB l then 0 else 3 := by unfold checkE; rw [hok]; rfl
    have h320 : l.length ≤ 320 := by
      have := hok
      unfold okLens at this
      exact of_decide_eq_true (Bool.and_eq_true_iff.1 this).1
    have HI := hid (fun W => isCode_any l h320 W)
    rw [e1, hok] at HC
    rw [e2]
    clear e1 e2 hok hst
    generalize codeB l = cb at *
    go_enter Tryd.func53, Tryd.ntmps53
    go_wp2_with fail
    refine HC.out.mono ?_
    rintro e w2 ⟨rfl, hb⟩
    have HB := hid (hb.alloc (.cells #[.int .i64 (tal l 0 : Nat), .int .i64 (tal l 1 : Nat), .int .i64 (tal l 2 : Nat), .int .i64 (tal l 3 : Nat), .int .i64 (tal l 4 : Nat), .int .i64 (tal l 5 : Nat), .int .i64 (tal l 6 : Nat), .int .i64 (tal l 7 : Nat), .int .i64 (tal l 8 : Nat), .int .i64 (tal l 9 : Nat), .int .i64 (tal l 10 : Nat), .int .i64 (tal l 11 : Nat), .int .i64 (tal l 12 : Nat), .int .i64 (tal l 13 : Nat), .int .i64 (tal l 14 : Nat), .int .i64 (tal l 15 : Nat)] 106))
    clear hb
    go_wp2_with fail
    refine (HI.out _).mono ?_
    rintro e w3 ⟨rfl, hb⟩
    have HB3 := hid (HB.out.trans hb)
    clear hb
    cases cb with
    | true =>
      go_wp2
      go_returns
      exact ⟨rfl, HB3.out⟩
    | false =>
      go_wp2
      go_returns
      exact ⟨rfl, HB3.out⟩
end Go.Proofs.YtacgnadhpgkcmaaDoor

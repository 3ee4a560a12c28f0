/- Operators' levels (contract of the function; the listed table holds what the program's text lays). -/
import Derived.Test.YtlilmidffcmkjaaGreatDoorExpF
import Derived.Deep.MidRow
namespace Go.Proofs.YtlilmidffcmkjaaGreatDoor
open Go.RowKit
set_option linter.unusedVariables false
set_option linter.unusedSimpArgs false
def sgnR : List Value := [.string ⟨#[61, 61]⟩, .int .i64 1, .string ⟨#[33, 61]⟩, .int .i64 1, .string ⟨#[60]⟩, .int .i64 1, .string ⟨#[124]⟩, .int .i64 2, .string ⟨#[38]⟩, .int .i64 3, .string ⟨#[60, 60]⟩, .int .i64 4, .string ⟨#[62, 62]⟩, .int .i64 4, .string ⟨#[43]⟩, .int .i64 5, .string ⟨#[45]⟩, .int .i64 5, .string ⟨#[42]⟩, .int .i64 6, .string ⟨#[47]⟩, .int .i64 6, .string ⟨#[37]⟩, .int .i64 6]
def sgnA : Array Value := sgnR.toArray
/-- An operator of the table. -/
def sgS (j : Nat) : ByteArray := ⟨(sgnT.getD j ([], 0)).1.toArray⟩
def sgL (j : Nat) : Nat := (sgnT.getD j ([], 0)).2
/-- The listed operators in memory. -/
def SgnAt (w : World) : Prop := 0 < w.heap.size ∧ w.rangeAt 0 0 sgnR
theorem SgnAt.bw {w w' : World} (h : SgnAt w) (hb : Bw w w') : SgnAt w' := ⟨Nat.lt_of_lt_of_le h.1 hb.size, fun i v hv => (hb.cell (p := ⟨_, 0 + i, none⟩) h.1).trans (h.2 i v hv)⟩
theorem sgn_info : (Tryz.prog.info? 80).map (·.size) = some sgnR.length := by kernel_rfl
theorem sgn_index0 (w : World) : (Instr.index 80 (.agg sgnA) (.int .i64 (0 : Nat))).run Tryz.prog w = .ok (.agg #[.string (sgS 0), .int .i64 (sgL 0 : Nat)]) w := by kernel_rfl
theorem sgn_index1 (w : World) : (Instr.index 80 (.agg sgnA) (.int .i64 (1 : Nat))).run Tryz.prog w = .ok (.agg #[.string (sgS 1), .int .i64 (sgL 1 : Nat)]) w := by kernel_rfl
theorem sgn_index2 (w : World) : (Instr.index 80 (.agg sgnA) (.int .i64 (2 : Nat))).run Tryz.prog w = .ok (.agg #[.string (sgS 2), .int .i64 (sgL 2 : Nat)]) w := by kernel_rfl
theorem sgn_index3 (w : World) : (Instr.index 80 (.agg sgnA) (.int .i64 (3 : Nat))).run Tryz.prog w = .ok (.agg #[.string (sgS 3), .int .i64 (sgL 3 : Nat)]) w := by kernel_rfl
theorem sgn_index4 (w : World) : (Instr.index 80 (.agg sgnA) (.int .i64 (4 : Nat))).run Tryz.prog w = .ok (.agg #[.string (sgS 4), .int .i64 (sgL 4 : Nat)]) w := by kernel_rfl
theorem sgn_index5 (w : World) : (Instr.index 80 (.agg sgnA) (.int .i64 (5 : Nat))).run Tryz.prog w = .ok (.agg #[.string (sgS 5), .int .i64 (sgL 5 : Nat)]) w := by kernel_rfl
theorem sgn_index6 (w : World) : (Instr.index 80 (.agg sgnA) (.int .i64 (6 : Nat))).run Tryz.prog w = .ok (.agg #[.string (sgS 6), .int .i64 (sgL 6 : Nat)]) w := by kernel_rfl
theorem sgn_index7 (w : World) : (Instr.index 80 (.agg sgnA) (.int .i64 (7 : Nat))).run Tryz.prog w = .ok (.agg #[.string (sgS 7), .int .i64 (sgL 7 : Nat)]) w := by kernel_rfl
theorem sgn_index8 (w : World) : (Instr.index 80 (.agg sgnA) (.int .i64 (8 : Nat))).run Tryz.prog w = .ok (.agg #[.string (sgS 8), .int .i64 (sgL 8 : Nat)]) w := by kernel_rfl
theorem sgn_index9 (w : World) : (Instr.index 80 (.agg sgnA) (.int .i64 (9 : Nat))).run Tryz.prog w = .ok (.agg #[.string (sgS 9), .int .i64 (sgL 9 : Nat)]) w := by kernel_rfl
theorem sgn_index10 (w : World) : (Instr.index 80 (.agg sgnA) (.int .i64 (10 : Nat))).run Tryz.prog w = .ok (.agg #[.string (sgS 10), .int .i64 (sgL 10 : Nat)]) w := by kernel_rfl
theorem sgn_index11 (w : World) : (Instr.index 80 (.agg sgnA) (.int .i64 (11 : Nat))).run Tryz.prog w = .ok (.agg #[.string (sgS 11), .int .i64 (sgL 11 : Nat)]) w := by kernel_rfl
theorem sgn_index : ∀ (j : Nat), j < 12 → ∀ (w : World), (Instr.index 80 (.agg sgnA) (.int .i64 j)).run Tryz.prog w = .ok (.agg #[.string (sgS j), .int .i64 (sgL j : Nat)]) w
  | 0, _, w => sgn_index0 w
  | 1, _, w => sgn_index1 w
  | 2, _, w => sgn_index2 w
  | 3, _, w => sgn_index3 w
  | 4, _, w => sgn_index4 w
  | 5, _, w => sgn_index5 w
  | 6, _, w => sgn_index6 w
  | 7, _, w => sgn_index7 w
  | 8, _, w => sgn_index8 w
  | 9, _, w => sgn_index9 w
  | 10, _, w => sgn_index10 w
  | 11, _, w => sgn_index11 w
  | j + 12, h, w => absurd h (by omega)
theorem sgn_drop (j : Nat) (h : j < 12) (s : ByteArray) : lvlGo (sgnT.drop j) s = if s = sgS j then sgL j else lvlGo (sgnT.drop (j + 1)) s := by
  have hl : j < sgnT.length := h
  have e : sgnT.getD j ([], 0) = sgnT[j] := by rw [List.getD_eq_getElem?_getD, List.getElem?_eq_getElem hl]; rfl
  rw [List.drop_eq_getElem_cons hl, lvlGo, sgS, sgL, e]
set_option maxRecDepth 100000 in
set_option maxHeartbeats 4000000 in
theorem levelOf_any (s : ByteArray) (w : World) (hS : SgnAt w) :
    Calls Tryz.prog 32 #[.string s] w fun e w' => e = .returned (.int .i64 (lvlOf s : Nat)) ∧ Bw w w' := by
  have HS := hid hS
  clear hS
  go_enter Tryz.func32, Tryz.ntmps32
  go_wp2_with (refine wpList_load_mid rfl 80 (.global 0) rfl 0 0 rfl sgnR _ HS.out.2 Tryz.underlying80 rfl sgn_info ?_)
  go_loopw [6] (fun i wr => ∃ j : Nat, j ≤ 12 ∧ i = .int .i64 j ∧ Hid (lvlGo (sgnT.drop j) s = lvlOf s) ∧ Bw w wr) (fun i _ => 12 - (intOf i).toNat)
  case atStart => exact ⟨0, by decide, rfl, hid rfl, Bw.refl w⟩
  case round =>
    rename World => wr
    obtain ⟨j, hj, rfl, HL, hb⟩ := hrel
    have HB := hid hb
    clear hb
    by_cases hlt : j < 12
    · have hj1 : (j : Int) < 12 := by omega
      have hix := sgn_index j hlt wr
      have hd := sgn_drop j hlt s
      have HB2 := hid (HB.out.alloc (.cells #[.string (sgS j), .int .i64 (sgL j : Nat)] 67))
      have HN := hid (Has.new wr 67 #[.string (sgS j), .int .i64 (sgL j : Nat)])
      unfold sgnA at hix
      generalize sgS j = sg at *
      generalize sgL j = lv at *
      by_cases he : s = sg
      · subst he
        have HE := hid (HL.out.symm.trans (hd.trans (if_pos rfl)))
        clear hd
        go_wp2
        go_returns
        exact ⟨by rw [HE.out]; rfl, HB2.out⟩
      · have HE := hid ((hd.symm.trans HL.out).symm.trans (if_neg he))
        have ht := str_ne (fun e => he e.symm : sg ≠ s)
        clear hd he
        go_wp2
        exact ⟨⟨j + 1, by omega, by go_num, hid HE.out.symm, HB2.out⟩, by simp [intOf]; omega⟩
    · obtain rfl : j = 12 := by omega
      have HE := hid HL.out
      go_wp2
      go_returns
      exact ⟨by rw [← HE.out]; rfl, HB.out⟩
end Go.Proofs.YtlilmidffcmkjaaGreatDoor

/- The fmt of a sound, by the program (contract of the function). -/
import Derived.Test.YtgkgimfdbkpbdaaDoorWavT
import Derived.Deep.DeepCutAuto
import Derived.IntWalk
namespace Go.Proofs.YtgkgimfdbkpbdaaDoor
open Go.RowKit
set_option linter.unusedVariables false
set_option linter.unusedSimpArgs false
def wdL : List Int := [2, 2, 4, 4, 2, 2]
/-- The table of widths, in memory. -/
def WidAt (w : World) : Prop := 0 < w.heap.size ∧ ∀ j, j < 6 → w.cell? ⟨0, j, none⟩ = some (.int .i64 (wdL.getD j 0))
theorem WidAt.bw {w w' : World} (h : WidAt w) (hb : Bw w w') : WidAt w' := ⟨Nat.lt_of_lt_of_le h.1 hb.size, fun j hj => (World.cell?_of_block (hb.block _ h.1)).trans (h.2 j hj)⟩
theorem WidAt.six {w : World} (h : WidAt w) : w.cell? ⟨0, 0, none⟩ = some (.int .i64 2) ∧ w.cell? ⟨0, 1, none⟩ = some (.int .i64 2) ∧ w.cell? ⟨0, 2, none⟩ = some (.int .i64 4) ∧ w.cell? ⟨0, 3, none⟩ = some (.int .i64 4) ∧ w.cell? ⟨0, 4, none⟩ = some (.int .i64 2) ∧ w.cell? ⟨0, 5, none⟩ = some (.int .i64 2) :=
  ⟨h.2 0 (by decide), h.2 1 (by decide), h.2 2 (by decide), h.2 3 (by decide), h.2 4 (by decide), h.2 5 (by decide)⟩
def fmtP (c r ra a b : Nat) : Nat → ByteArray
  | 0 => ⟨#[]⟩
  | 1 => bytesS 1 2 false
  | 2 => bytesS 1 2 false ++ bytesS c 2 false
  | 3 => bytesS 1 2 false ++ bytesS c 2 false ++ bytesS r 4 false
  | 4 => bytesS 1 2 false ++ bytesS c 2 false ++ bytesS r 4 false ++ bytesS ra 4 false
  | 5 => bytesS 1 2 false ++ bytesS c 2 false ++ bytesS r 4 false ++ bytesS ra 4 false ++ bytesS a 2 false
  | _ => bytesS 1 2 false ++ bytesS c 2 false ++ bytesS r 4 false ++ bytesS ra 4 false ++ bytesS a 2 false ++ bytesS b 2 false
theorem fmtP_size (c r ra a b j : Nat) : (fmtP c r ra a b j).size ≤ 16 := by
  unfold fmtP
  split
  · decide
  all_goals
    simp only [ByteArray.size_append, bytesS_size]
    omega
theorem index_arr (ps : List Int) (h8 : ps.length = 6) (j : Nat) (hj : j < 6) (w : World) : (Instr.index 86 (.agg (ps.map (Value.int .i64)).toArray) (.int .i64 j)).run Tryd.prog w = .ok (.int .i64 (ps.getD j 0)) w := by
  have e : (Instr.index 86 (.agg (ps.map (Value.int .i64)).toArray) (.int .i64 j)).run Tryd.prog w = (part 3 (ps.map (Value.int .i64)).toArray (j * 1)).run Tryd.prog w := by
    have h0 : 0 ≤ (j : Int) ∧ (j : Int) < (6 : Nat) := by omega
    simp [Instr.index, run_underlying Tryd.underlying86, asIntOf, h0, hj, go_sem]
  rw [e]
  have hg : (ps.map (Value.int .i64)).toArray[j]? = some (.int .i64 (ps.getD j 0)) := by
    simp [List.getD, hj, h8]
  simp [part, hg, go_sem]
set_option maxRecDepth 100000 in
set_option maxHeartbeats 8000000 in
theorem formatOf_any (c r b : Nat) (hc : 1 ≤ c ∧ c ≤ 16) (hr : 1 ≤ r ∧ r ≤ 16777216) (hb : b = 8 ∨ b = 16 ∨ b = 24 ∨ b = 32) (x y : Value) (w : World) (hwd : WidAt w) :
    Calls Tryd.prog 36 #[.agg #[.int .i64 c, .int .i64 r, .int .i64 b, x, y]] w fun e w' => e = .returned (.string (fmtN c r b)) ∧ Bw w w' := by
  obtain ⟨ha0, ha1⟩ := alg_le hc.2 hc.1 hb
  have hb9 : b ≤ 32 := by omega
  have HFW := hid (fun W => frameWidth_any c r b hc.2 hb9 x y W)
  have HFN := hid (show fmtN c r b = fmtP c r (r * (c * b / 8)) (c * b / 8) b 6 from rfl)
  obtain ⟨R, hR⟩ : ∃ R, fmtN c r b = R := ⟨_, rfl⟩
  rw [hR] at HFN ⊢
  clear hR
  have hra : r * (c * b / 8) ≤ 16777216 * 64 := Nat.mul_le_mul hr.2 ha1
  obtain ⟨al, hal⟩ : ∃ al, c * b / 8 = al := ⟨_, rfl⟩
  rw [hal] at HFW HFN ha0 ha1 hra
  clear hal
  obtain ⟨ra, hra'⟩ : ∃ ra, r * al = ra := ⟨_, rfl⟩
  rw [hra'] at HFN hra
  have HRA := hid (show ((r : Int) * al) = (ra : Nat) by rw [← hra']; simp)
  clear hra'
  have hm : IntKind.i64.wrap ((r : Int) * al) = ra := by rw [HRA.out]; exact IntWalk.i64_in _ (by omega)
  have HM := hid hm
  have HWD := hid hwd
  have HA1 := hid ((Bw.refl w).alloc (.cells #[.int .i64 c, .int .i64 r, .int .i64 b, x, y] 34))
  have HN1 := hid (Has.new w 34 #[.int .i64 c, .int .i64 r, .int .i64 b, x, y])
  obtain ⟨g, hg⟩ : ∃ g, w.heap.size = g := ⟨_, rfl⟩
  rw [hg] at HN1
  have HB2 := hid (fun n (hn : n < 65536) W => number2_any n hn W)
  have HB4 := hid (fun n (hn : n < 4294967296) W => number4_any n hn W)
  clear hwd hm
  go_enter Tryd.func36, Tryd.ntmps36
  go_wp2_with fail
  generalize w.alloc (.cells #[.int .i64 c, .int .i64 r, .int .i64 b, x, y] 34) = w1 at *
  refine (HFW.out _).mono ?_
  rintro e w2 ⟨rfl, hb2⟩
  have HW2 := hid (HA1.out.trans hb2)
  have HN2 := hid (hb2.has HN1.out)
  clear hb2
  have HS2 := hid HW2.out.size
  have HL3 := hid (Bld.fresh w2 w.heap.size HS2.out)
  have HW3 := hid (HW2.out.alloc (.cells #[.pointer none, .slice none 0 0] 57))
  have HN3 := hid (HN2.out.alloc (.cells #[.pointer none, .slice none 0 0] 57))
  obtain ⟨bb, hbb⟩ : ∃ bb, w2.heap.size = bb := ⟨_, rfl⟩
  rw [hbb] at HL3
  have HWS := hid (fun W (u : Bool) (s t : ByteArray) (hst : s.size + t.size ≤ 2000000) (hBW : Bw w W) (hbl : Bld w.heap.size bb u s W) => write_any w.heap.size bb u s t (by omega) W hBW.size hbl)
  go_upto_region 3 with fail
  generalize w2.alloc (.cells #[.pointer none, .slice none 0 0] 57) = w3 at *
  clear hbb
  have n0 := HN3.out.cell 0
  have n1 := HN3.out.cell 1
  have n2 := HN3.out.cell 2
  simp at n0 n1 n2
  have hm : IntKind.i64.wrap ((r : Int) * al) = ra := HM.out
  go_wp2
  clear hm n0 n1 n2
  go_loopw [21] (fun vi wr => ∃ (j : Nat) (u : Bool), j ≤ 6 ∧ vi = .int .i64 j ∧ Bld w.heap.size bb u (fmtP c r ra al b j) wr ∧ Bw w wr) (fun vi _ => 6 - (intOf vi).toNat)
  case atStart => exact ⟨0, false, by decide, rfl, HL3.out, HW3.out⟩
  case round =>
    rename World => wr
    obtain ⟨j, u, hj, rfl, hbl, hw⟩ := hrel
    have HW := hid hw
    have HBL := hid hbl
    have HPZ := hid (fmtP_size c r ra al b j)
    obtain ⟨m0, m1, m2, m3, m4, m5⟩ := (HWD.out.bw hw).six
    clear hw hbl
    have hcase : j = 0 ∨ j = 1 ∨ j = 2 ∨ j = 3 ∨ j = 4 ∨ j = 5 ∨ j = 6 := by omega
    rcases hcase with rfl | rfl | rfl | rfl | rfl | rfl | rfl
    · have hix : (Instr.index 86 (.agg #[.int .i64 1, .int .i64 c, .int .i64 r, .int .i64 ra, .int .i64 al, .int .i64 b]) (.int .i64 0)).run Tryd.prog wr = .ok (.int .i64 (1 : Int)) wr := index_arr [1, c, r, ra, al, b] rfl 0 (by decide) wr
      go_wp2_with fail
      clear hix
      refine (HB2.out 1 (by decide) _).mono ?_
      rintro e w5 ⟨rfl, hb5⟩
      have HW5 := hid (HW.out.trans hb5)
      have HL5 := hid (HBL.out.bw hb5)
      go_wp2_with fail
      refine (HWS.out _ _ _ _ (by have := HPZ.out; rw [bytesS_size]; omega) HW5.out HL5.out).mono ?_
      rintro e w6 ⟨rfl, hbl6, hbw6⟩
      have HW6 := hid (show Bw w w6 from Below.trans HW5.out hbw6.1)
      go_wp2
      exact ⟨⟨1, true, by decide, by go_num, by rw [show fmtP c r ra al b 1 = fmtP c r ra al b 0 ++ bytesS 1 2 false from (nil_app _).symm]; exact hbl6, HW6.out⟩, by simp [intOf]⟩
    · have hix : (Instr.index 86 (.agg #[.int .i64 1, .int .i64 c, .int .i64 r, .int .i64 ra, .int .i64 al, .int .i64 b]) (.int .i64 1)).run Tryd.prog wr = .ok (.int .i64 (c : Int)) wr := index_arr [1, c, r, ra, al, b] rfl 1 (by decide) wr
      go_wp2_with fail
      clear hix
      refine (HB2.out c (by omega) _).mono ?_
      rintro e w5 ⟨rfl, hb5⟩
      have HW5 := hid (HW.out.trans hb5)
      have HL5 := hid (HBL.out.bw hb5)
      go_wp2_with fail
      refine (HWS.out _ _ _ _ (by have := HPZ.out; rw [bytesS_size]; omega) HW5.out HL5.out).mono ?_
      rintro e w6 ⟨rfl, hbl6, hbw6⟩
      have HW6 := hid (show Bw w w6 from Below.trans HW5.out hbw6.1)
      go_wp2
      exact ⟨⟨2, true, by decide, by go_num, hbl6, HW6.out⟩, by simp [intOf]⟩
    · have hix : (Instr.index 86 (.agg #[.int .i64 1, .int .i64 c, .int .i64 r, .int .i64 ra, .int .i64 al, .int .i64 b]) (.int .i64 2)).run Tryd.prog wr = .ok (.int .i64 (r : Int)) wr := index_arr [1, c, r, ra, al, b] rfl 2 (by decide) wr
      go_wp2_with fail
      clear hix
      refine (HB4.out r (by omega) _).mono ?_
      rintro e w5 ⟨rfl, hb5⟩
      have HW5 := hid (HW.out.trans hb5)
      have HL5 := hid (HBL.out.bw hb5)
      go_wp2_with fail
      refine (HWS.out _ _ _ _ (by have := HPZ.out; rw [bytesS_size]; omega) HW5.out HL5.out).mono ?_
      rintro e w6 ⟨rfl, hbl6, hbw6⟩
      have HW6 := hid (show Bw w w6 from Below.trans HW5.out hbw6.1)
      go_wp2
      exact ⟨⟨3, true, by decide, by go_num, hbl6, HW6.out⟩, by simp [intOf]⟩
    · have hix : (Instr.index 86 (.agg #[.int .i64 1, .int .i64 c, .int .i64 r, .int .i64 ra, .int .i64 al, .int .i64 b]) (.int .i64 3)).run Tryd.prog wr = .ok (.int .i64 (ra : Int)) wr := index_arr [1, c, r, ra, al, b] rfl 3 (by decide) wr
      go_wp2_with fail
      clear hix
      refine (HB4.out ra (by omega) _).mono ?_
      rintro e w5 ⟨rfl, hb5⟩
      have HW5 := hid (HW.out.trans hb5)
      have HL5 := hid (HBL.out.bw hb5)
      go_wp2_with fail
      refine (HWS.out _ _ _ _ (by have := HPZ.out; rw [bytesS_size]; omega) HW5.out HL5.out).mono ?_
      rintro e w6 ⟨rfl, hbl6, hbw6⟩
      have HW6 := hid (show Bw w w6 from Below.trans HW5.out hbw6.1)
      go_wp2
      exact ⟨⟨4, true, by decide, by go_num, hbl6, HW6.out⟩, by simp [intOf]⟩
    · have hix : (Instr.index 86 (.agg #[.int .i64 1, .int .i64 c, .int .i64 r, .int .i64 ra, .int .i64 al, .int .i64 b]) (.int .i64 4)).run Tryd.prog wr = .ok (.int .i64 (al : Int)) wr := index_arr [1, c, r, ra, al, b] rfl 4 (by decide) wr
      go_wp2_with fail
      clear hix
      refine (HB2.out al (by omega) _).mono ?_
      rintro e w5 ⟨rfl, hb5⟩
      have HW5 := hid (HW.out.trans hb5)
      have HL5 := hid (HBL.out.bw hb5)
      go_wp2_with fail
      refine (HWS.out _ _ _ _ (by have := HPZ.out; rw [bytesS_size]; omega) HW5.out HL5.out).mono ?_
      rintro e w6 ⟨rfl, hbl6, hbw6⟩
      have HW6 := hid (show Bw w w6 from Below.trans HW5.out hbw6.1)
      go_wp2
      exact ⟨⟨5, true, by decide, by go_num, hbl6, HW6.out⟩, by simp [intOf]⟩
    · have hix : (Instr.index 86 (.agg #[.int .i64 1, .int .i64 c, .int .i64 r, .int .i64 ra, .int .i64 al, .int .i64 b]) (.int .i64 5)).run Tryd.prog wr = .ok (.int .i64 (b : Int)) wr := index_arr [1, c, r, ra, al, b] rfl 5 (by decide) wr
      go_wp2_with fail
      clear hix
      refine (HB2.out b (by omega) _).mono ?_
      rintro e w5 ⟨rfl, hb5⟩
      have HW5 := hid (HW.out.trans hb5)
      have HL5 := hid (HBL.out.bw hb5)
      go_wp2_with fail
      refine (HWS.out _ _ _ _ (by have := HPZ.out; rw [bytesS_size]; omega) HW5.out HL5.out).mono ?_
      rintro e w6 ⟨rfl, hbl6, hbw6⟩
      have HW6 := hid (show Bw w w6 from Below.trans HW5.out hbw6.1)
      go_wp2
      exact ⟨⟨6, true, by decide, by go_num, hbl6, HW6.out⟩, by simp [intOf]⟩
    · have HSTR := hid (string_any w.heap.size bb u _ wr HW.out.size HBL.out)
      go_wp2_with fail
      refine HSTR.out.mono ?_
      rintro e q1 ⟨rfl, hbw1⟩
      have HB1 := hid (show Bw w q1 from Below.trans HW.out hbw1.1)
      clear hbw1
      go_wp2
      go_returns
      exact ⟨by rw [HFN.out]; rfl, HB1.out⟩
end Go.Proofs.YtgkgimfdbkpbdaaDoor

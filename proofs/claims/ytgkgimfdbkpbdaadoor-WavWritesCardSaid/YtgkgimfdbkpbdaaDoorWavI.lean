/- The document's shape and Format (contracts of the functions). -/
import Derived.Test.YtgkgimfdbkpbdaaDoorWavR
namespace Go.Proofs.YtgkgimfdbkpbdaaDoor
open Go.RowKit
set_option linter.unusedVariables false
set_option linter.unusedSimpArgs false
set_option maxRecDepth 100000 in
set_option maxHeartbeats 8000000 in
theorem rshape_any (ch rate bits : Int) (fr : ByteArray) (l : List ChkR) (A : Option Addr) (len cap : Nat) (w : World) :
    Calls Tryd.prog 57 #[.agg #[.int .i64 ch, .int .i64 rate, .int .i64 bits, .string fr, .slice A len cap]] w fun e w' => e = .returned (.bool (shapeB ⟨ch, rate, bits, fr, l⟩)) ∧ Bw w w' := by
  have HB1 := hid ((Bw.refl w).alloc (.cells #[.int .i64 ch, .int .i64 rate, .int .i64 bits, .string fr, .slice A len cap] 34))
  have HX1 := hid (Has.new w 34 #[.int .i64 ch, .int .i64 rate, .int .i64 bits, .string fr, .slice A len cap])
  obtain ⟨na, hna⟩ : ∃ na, w.heap.size = na := ⟨_, rfl⟩
  rw [hna] at HX1
  by_cases c0 : 1 ≤ ch
  case neg =>
    have HV := hid (show shapeB ⟨ch, rate, bits, fr, l⟩ = false from by simp [shapeB, bitsB]; omega)
    go_enter Tryd.func57, Tryd.ntmps57
    go_upto_region 1 with fail
    generalize w.alloc (.cells #[.int .i64 ch, .int .i64 rate, .int .i64 bits, .string fr, .slice A len cap] 34) = w1 at *
    obtain ⟨x0, x1, x2, x3, x4⟩ := HX1.out.five
    go_wp2
    go_returns
    exact ⟨by rw [HV.out]; rfl, HB1.out⟩
  by_cases c1 : ch ≤ 16
  case neg =>
    have HV := hid (show shapeB ⟨ch, rate, bits, fr, l⟩ = false from by simp [shapeB, bitsB]; omega)
    go_enter Tryd.func57, Tryd.ntmps57
    go_upto_region 1 with fail
    generalize w.alloc (.cells #[.int .i64 ch, .int .i64 rate, .int .i64 bits, .string fr, .slice A len cap] 34) = w1 at *
    obtain ⟨x0, x1, x2, x3, x4⟩ := HX1.out.five
    go_wp2
    go_returns
    exact ⟨by rw [HV.out]; rfl, HB1.out⟩
  by_cases c2 : 1 ≤ rate
  case neg =>
    have HV := hid (show shapeB ⟨ch, rate, bits, fr, l⟩ = false from by simp [shapeB, bitsB]; omega)
    go_enter Tryd.func57, Tryd.ntmps57
    go_upto_region 1 with fail
    generalize w.alloc (.cells #[.int .i64 ch, .int .i64 rate, .int .i64 bits, .string fr, .slice A len cap] 34) = w1 at *
    obtain ⟨x0, x1, x2, x3, x4⟩ := HX1.out.five
    go_wp2
    go_returns
    exact ⟨by rw [HV.out]; rfl, HB1.out⟩
  by_cases c3 : rate ≤ 16777216
  case neg =>
    have HV := hid (show shapeB ⟨ch, rate, bits, fr, l⟩ = false from by simp [shapeB, bitsB]; omega)
    go_enter Tryd.func57, Tryd.ntmps57
    go_upto_region 1 with fail
    generalize w.alloc (.cells #[.int .i64 ch, .int .i64 rate, .int .i64 bits, .string fr, .slice A len cap] 34) = w1 at *
    obtain ⟨x0, x1, x2, x3, x4⟩ := HX1.out.five
    go_wp2
    go_returns
    exact ⟨by rw [HV.out]; rfl, HB1.out⟩
  by_cases b8 : bits = 8
  case pos =>
    subst b8
    have HV := hid (show shapeB ⟨ch, rate, 8, fr, l⟩ = true from by simp [shapeB, bitsB]; omega)
    go_enter Tryd.func57, Tryd.ntmps57
    go_upto_region 1 with fail
    generalize w.alloc (.cells #[.int .i64 ch, .int .i64 rate, .int .i64 8, .string fr, .slice A len cap] 34) = w1 at *
    obtain ⟨x0, x1, x2, x3, x4⟩ := HX1.out.five
    go_wp2
    go_returns
    exact ⟨by rw [HV.out]; rfl, HB1.out⟩
  by_cases b16 : bits = 16
  case pos =>
    subst b16
    have HV := hid (show shapeB ⟨ch, rate, 16, fr, l⟩ = true from by simp [shapeB, bitsB]; omega)
    go_enter Tryd.func57, Tryd.ntmps57
    go_upto_region 1 with fail
    generalize w.alloc (.cells #[.int .i64 ch, .int .i64 rate, .int .i64 16, .string fr, .slice A len cap] 34) = w1 at *
    obtain ⟨x0, x1, x2, x3, x4⟩ := HX1.out.five
    go_wp2
    go_returns
    exact ⟨by rw [HV.out]; rfl, HB1.out⟩
  by_cases b24 : bits = 24
  case pos =>
    subst b24
    have HV := hid (show shapeB ⟨ch, rate, 24, fr, l⟩ = true from by simp [shapeB, bitsB]; omega)
    go_enter Tryd.func57, Tryd.ntmps57
    go_upto_region 1 with fail
    generalize w.alloc (.cells #[.int .i64 ch, .int .i64 rate, .int .i64 24, .string fr, .slice A len cap] 34) = w1 at *
    obtain ⟨x0, x1, x2, x3, x4⟩ := HX1.out.five
    go_wp2
    go_returns
    exact ⟨by rw [HV.out]; rfl, HB1.out⟩
  by_cases b32 : bits = 32
  case pos =>
    subst b32
    have HV := hid (show shapeB ⟨ch, rate, 32, fr, l⟩ = true from by simp [shapeB, bitsB]; omega)
    go_enter Tryd.func57, Tryd.ntmps57
    go_upto_region 1 with fail
    generalize w.alloc (.cells #[.int .i64 ch, .int .i64 rate, .int .i64 32, .string fr, .slice A len cap] 34) = w1 at *
    obtain ⟨x0, x1, x2, x3, x4⟩ := HX1.out.five
    go_wp2
    go_returns
    exact ⟨by rw [HV.out]; rfl, HB1.out⟩
  have t8 : (bits == 8) = false := by simpa using b8
  have t16 : (bits == 16) = false := by simpa using b16
  have t24 : (bits == 24) = false := by simpa using b24
  have t32 : (bits == 32) = false := by simpa using b32
  have HV := hid (show shapeB ⟨ch, rate, bits, fr, l⟩ = false from by simp [shapeB, bitsB]; omega)
  go_enter Tryd.func57, Tryd.ntmps57
  go_upto_region 1 with fail
  generalize w.alloc (.cells #[.int .i64 ch, .int .i64 rate, .int .i64 bits, .string fr, .slice A len cap] 34) = w1 at *
  obtain ⟨x0, x1, x2, x3, x4⟩ := HX1.out.five
  go_wp2
  go_returns
  exact ⟨by rw [HV.out]; rfl, HB1.out⟩
set_option maxRecDepth 100000 in
set_option maxHeartbeats 8000000 in
theorem rFormat_any (c r b : Nat) (hc : 1 ≤ c ∧ c ≤ 16) (hr : 1 ≤ r ∧ r ≤ 16777216) (hb : b = 8 ∨ b = 16 ∨ b = 24 ∨ b = 32) (fr : ByteArray) (A : Option Addr) (len cap : Nat) (w : World) :
    Calls Tryd.prog 58 #[.agg #[.int .i64 c, .int .i64 r, .int .i64 b, .string fr, .slice A len cap]] w fun e w' => e = .returned (.string (fmtN c r b)) ∧ Bw w w' := by
  obtain ⟨ha1, ha2⟩ := alg_le hc.2 hc.1 hb
  have hra : r * (c * b / 8) < 4294967296 := by
    have := Nat.mul_le_mul hr.2 ha2
    omega
  have H1 := hid (fun W => rbytes2_any c (by omega) W)
  have H2 := hid (fun W => rbytes4_any r (by omega) W)
  have H3 := hid (fun W => rbytes4_any (r * (c * b / 8)) hra W)
  have H4 := hid (fun W => rbytes2_any (c * b / 8) (by omega) W)
  have H5 := hid (fun W => rbytes2_any b (by omega) W)
  have HF := hid (show fmtN c r b = ⟨#[1, 0]⟩ ++ bytesS c 2 false ++ bytesS r 4 false ++ bytesS (r * (c * b / 8)) 4 false ++ bytesS (c * b / 8) 2 false ++ bytesS b 2 false from by unfold fmtN; rw [one_two])
  have hcb : c * b ≤ 512 := by
    have := Nat.mul_le_mul hc.2 (show b ≤ 32 by omega)
    omega
  have e1 : (c : Int) * b = ((c * b : Nat) : Int) := by simp
  have z1 := bytesS_size c 2 false
  have z2 := bytesS_size r 4 false
  have z3 := bytesS_size (r * (c * b / 8)) 4 false
  have z4 := bytesS_size (c * b / 8) 2 false
  have z5 := bytesS_size b 2 false
  obtain ⟨cb, hcbb⟩ : ∃ cb, c * b = cb := ⟨_, rfl⟩
  rw [hcbb] at e1 hcb ha1 ha2 hra H3 H4 HF z3 z4
  obtain ⟨al, hal⟩ : ∃ al, cb / 8 = al := ⟨_, rfl⟩
  rw [hal] at ha1 ha2 hra H3 H4 HF z3 z4
  have e2 : (cb : Int) / 8 = al := by omega
  have e2t : (cb : Int).tdiv 8 = al := by rw [Int.tdiv_eq_ediv_of_nonneg (by omega)]; omega
  have e3 : (r : Int) * al = ((r * al : Nat) : Int) := by simp
  obtain ⟨ra, hraa⟩ : ∃ ra, r * al = ra := ⟨_, rfl⟩
  rw [hraa] at hra H3 HF z3 e3
  generalize bytesS c 2 false = s1 at *
  generalize bytesS r 4 false = s2 at *
  generalize bytesS ra 4 false = s3 at *
  generalize bytesS al 2 false = s4 at *
  generalize bytesS b 2 false = s5 at *
  have hb32 : b ≤ 32 := by omega
  have hc16 : c ≤ 16 := hc.2
  have hr16 : r ≤ 16777216 := hr.2
  clear hc hr hb hcbb hal hraa
  have HB1 := hid ((Bw.refl w).alloc (.cells #[.int .i64 c, .int .i64 r, .int .i64 b, .string fr, .slice A len cap] 34))
  have HX1 := hid (Has.new w 34 #[.int .i64 c, .int .i64 r, .int .i64 b, .string fr, .slice A len cap])
  obtain ⟨na, hna⟩ : ∃ na, w.heap.size = na := ⟨_, rfl⟩
  rw [hna] at HX1
  go_enter Tryd.func58, Tryd.ntmps58
  go_upto_region 1 with fail
  generalize w.alloc (.cells #[.int .i64 c, .int .i64 r, .int .i64 b, .string fr, .slice A len cap] 34) = w1 at *
  obtain ⟨x0, x1, x2, x3, x4⟩ := HX1.out.five
  go_wp2_with fail
  refine (H1.out _).mono ?_
  rintro e w2 ⟨rfl, hb2⟩
  have HB2 := hid (HB1.out.trans hb2)
  have HX2 := hid (hb2.has HX1.out)
  clear hb2 x0 x1 x2 x3 x4
  obtain ⟨x0, x1, x2, x3, x4⟩ := HX2.out.five
  go_wp2_with fail
  refine (H2.out _).mono ?_
  rintro e w3 ⟨rfl, hb3⟩
  have HB3 := hid (HB2.out.trans hb3)
  have HX3 := hid (hb3.has HX2.out)
  clear hb3 x0 x1 x2 x3 x4
  obtain ⟨x0, x1, x2, x3, x4⟩ := HX3.out.five
  go_wp2_with fail
  refine (H3.out _).mono ?_
  rintro e w4 ⟨rfl, hb4⟩
  have HB4 := hid (HB3.out.trans hb4)
  have HX4 := hid (hb4.has HX3.out)
  clear hb4 x0 x1 x2 x3 x4
  obtain ⟨x0, x1, x2, x3, x4⟩ := HX4.out.five
  go_wp2_with fail
  refine (H4.out _).mono ?_
  rintro e w5 ⟨rfl, hb5⟩
  have HB5 := hid (HB4.out.trans hb5)
  have HX5 := hid (hb5.has HX4.out)
  clear hb5 x0 x1 x2 x3 x4
  obtain ⟨x0, x1, x2, x3, x4⟩ := HX5.out.five
  go_wp2_with fail
  refine (H5.out _).mono ?_
  rintro e w6 ⟨rfl, hb6⟩
  have HB6 := hid (HB5.out.trans hb6)
  have HX6 := hid (hb6.has HX5.out)
  clear hb6 x0 x1 x2 x3 x4
  obtain ⟨x0, x1, x2, x3, x4⟩ := HX6.out.five
  have q0 : (⟨#[1, 0]⟩ : ByteArray).size = 2 := rfl
  have q1 : (⟨#[1, 0]⟩ ++ s1 : ByteArray).size = 4 := by rw [ByteArray.size_append, q0, z1]
  have q2 : (⟨#[1, 0]⟩ ++ s1 ++ s2 : ByteArray).size = 8 := by rw [ByteArray.size_append, q1, z2]
  have q3 : (⟨#[1, 0]⟩ ++ s1 ++ s2 ++ s3 : ByteArray).size = 12 := by rw [ByteArray.size_append, q2, z3]
  have q4 : (⟨#[1, 0]⟩ ++ s1 ++ s2 ++ s3 ++ s4 : ByteArray).size = 14 := by rw [ByteArray.size_append, q3, z4]
  go_wp2
  go_returns
  exact ⟨by rw [HF.out]; rfl, HB6.out⟩
end Go.Proofs.YtgkgimfdbkpbdaaDoor

/- A part of a file (contract of the function). -/
import Derived.Test.YtciaebhkemdilaaElfA
namespace Go.Proofs.Ytciaebhkemdilaa
open Go.RowKit
set_option linter.unusedVariables false
set_option linter.unusedSimpArgs false
theorem sub_in (b : Nat) (hb : b ≤ 281474976710656) (s : ByteArray) (hs : s.size ≤ lim) (p k : Nat) (h : p + k ≤ s.size) (w : World) :
    Calls Try.prog 76 #[.agg #[.int .i64 b, .string s], .int .i64 p, .int .i64 k] w fun e w' => e = .returned (.tuple #[.agg #[.int .i64 (b + p : Nat), .string (s.extract p (p + k))], .int .i64 0]) ∧ Bw w w' := by
  have h0 : subE s.size p k = 0 := subE_ok (by omega) (by omega)
  have := sub_any (b : Int) (by omega) (by omega) s hs (p : Nat) (k : Nat) w
  rw [h0, subS_ok h0, subB_ok h0] at this
  simpa using this
theorem sub_out (b : Nat) (hb : b ≤ 281474976710656) (s : ByteArray) (hs : s.size ≤ lim) (p k : Nat) (h : s.size < p + k) (w : World) :
    Calls Try.prog 76 #[.agg #[.int .i64 b, .string s], .int .i64 p, .int .i64 k] w fun e w' => e = .returned (.tuple #[.agg #[.int .i64 0, .string ⟨#[]⟩], .int .i64 2]) ∧ Bw w w' := by
  have h0 : subE s.size p k = 2 := subE_cut (by omega) (by omega)
  have := sub_any (b : Int) (by omega) (by omega) s hs (p : Nat) (k : Nat) w
  rw [h0, subS_bad (by rw [h0]; decide), subB_bad (by rw [h0]; decide)] at this
  exact this
set_option maxRecDepth 100000 in
set_option maxHeartbeats 2000000 in
theorem part_ok (s : ByteArray) (hs : s.size ≤ lim) (p k : Nat) (h : p + k ≤ s.size) (w : World) :
    Calls Try.prog 43 #[.agg #[.int .i64 0, .string s], .int .u64 p, .int .i64 k] w fun e w' => ∃ g, e = .returned (.pointer (some ⟨g, 0, none⟩)) ∧ Rdr w' g p (s.extract p (p + k)) 0 ∧ w.heap.size ≤ g ∧ Bw w w' := by
  have hl : s.size ≤ 281474976710656 := hs
  have HL := hid (fun W => len_any 0 s hs W)
  have HS := hid (fun W => sub_in 0 (by omega) s hs p k h W)
  obtain ⟨T, hT⟩ : ∃ T, s.extract p (p + k) = T := ⟨_, rfl⟩
  rw [hT] at HS ⊢
  rw [Nat.zero_add] at HS
  clear hT
  have h1 : (p : Int) ≤ s.size := by omega
  have v1 : IntKind.u64.wrap (s.size : Int) = s.size := IntWalk.u64_in _ (by omega)
  have v2 : IntKind.i64.wrap (p : Int) = p := IntWalk.i64_in _ (by omega)
  have HN := hid (Has.new w 49 #[.int .i64 0, .string s])
  have HB := hid ((Bw.refl w).alloc (.cells #[.int .i64 0, .string s] 49))
  obtain ⟨wb, hwb⟩ : ∃ wb, w.heap.size = wb := ⟨_, rfl⟩
  have HWB := hid hwb
  rw [hwb] at HN
  go_enter Try.func43, Try.ntmps43
  go_wp2_with fail
  generalize w.alloc (.cells #[.int .i64 0, .string s] 49) = w1 at *
  refine (HL.out _).mono ?_
  rintro e w2 ⟨rfl, hb2⟩
  have HB2 := hid (HB.out.trans hb2)
  have HN2 := hid (hb2.has HN.out)
  clear hb2 hwb
  go_wp2_with fail
  refine (demand_ok 2 _).mono ?_
  rintro e w3 ⟨rfl, rfl⟩
  have c0 : w3.cell? ⟨wb, 0, none⟩ = some (.int .i64 0) := HN2.out.cell 0
  have c1 : w3.cell? ⟨wb, 1, none⟩ = some (.string s) := HN2.out.cell 1
  go_wp2_with fail
  refine (HS.out _).mono ?_
  rintro e w4 ⟨rfl, hb4⟩
  have HB4 := hid (HB2.out.trans hb4)
  clear hb4 c0 c1
  have HB5 := hid (HB4.out.alloc (.cells #[.int .i64 p, .string T] 46))
  have HX5 := hid (Has.new w4 46 #[.int .i64 p, .string T])
  obtain ⟨xb, hxb⟩ : ∃ xb, w4.heap.size = xb := ⟨_, rfl⟩
  rw [hxb] at HX5
  go_wp2_with fail
  generalize w4.alloc (.cells #[.int .i64 p, .string T] 46) = w5 at *
  clear hxb
  refine (demand_ok 0 _).mono ?_
  rintro e w6 ⟨rfl, rfl⟩
  have c0 : w6.cell? ⟨xb, 0, none⟩ = some (.int .i64 p) := HX5.out.cell 0
  have c1 : w6.cell? ⟨xb, 1, none⟩ = some (.string T) := HX5.out.cell 1
  have HB7 := hid (HB5.out.alloc (.cells #[.int .i64 p, .string T, .int .i64 0] 119))
  have HR7 := hid (show Rdr (w6.alloc (.cells #[.int .i64 p, .string T, .int .i64 0] 119)) w6.heap.size p T 0 from Has.new w6 _ _)
  go_wp2
  go_returns
  exact ⟨_, rfl, HR7.out, HB5.out.size, HB7.out⟩
set_option maxRecDepth 100000 in
set_option maxHeartbeats 2000000 in
theorem part_bad (s : ByteArray) (hs : s.size ≤ lim) (p k : Nat) (hp : p < 18446744073709551616) (hk : k ≤ 1099511627776) (h : s.size < p + k) (w : World) :
    Calls Try.prog 43 #[.agg #[.int .i64 0, .string s], .int .u64 p, .int .i64 k] w fun e w' => e = pan 2 ∧ Bw w w' := by
  have hl : s.size ≤ 281474976710656 := hs
  have HL := hid (fun W => len_any 0 s hs W)
  have HS := hid (fun W => sub_out 0 (by omega) s hs p k h W)
  have v1 : IntKind.u64.wrap (s.size : Int) = s.size := IntWalk.u64_in _ (by omega)
  have HN := hid (Has.new w 49 #[.int .i64 0, .string s])
  have HB := hid ((Bw.refl w).alloc (.cells #[.int .i64 0, .string s] 49))
  obtain ⟨wb, hwb⟩ : ∃ wb, w.heap.size = wb := ⟨_, rfl⟩
  rw [hwb] at HN
  by_cases hps : p ≤ s.size
  · have h1 : (p : Int) ≤ s.size := by omega
    have v2 : IntKind.i64.wrap (p : Int) = p := IntWalk.i64_in _ (by omega)
    go_enter Try.func43, Try.ntmps43
    go_wp2_with fail
    generalize w.alloc (.cells #[.int .i64 0, .string s] 49) = w1 at *
    refine (HL.out _).mono ?_
    rintro e w2 ⟨rfl, hb2⟩
    have HB2 := hid (HB.out.trans hb2)
    have HN2 := hid (hb2.has HN.out)
    clear hb2 hwb
    go_wp2_with fail
    refine (demand_ok 2 _).mono ?_
    rintro e w3 ⟨rfl, rfl⟩
    have c0 : w3.cell? ⟨wb, 0, none⟩ = some (.int .i64 0) := HN2.out.cell 0
    have c1 : w3.cell? ⟨wb, 1, none⟩ = some (.string s) := HN2.out.cell 1
    go_wp2_with fail
    refine (HS.out _).mono ?_
    rintro e w4 ⟨rfl, hb4⟩
    have HB4 := hid (HB2.out.trans hb4)
    clear hb4 c0 c1
    have HB5 := hid (HB4.out.alloc (.cells #[.int .i64 0, .string ⟨#[]⟩] 46))
    go_wp2_with fail
    generalize w4.alloc (.cells #[.int .i64 0, .string ⟨#[]⟩] 46) = w5 at *
    refine (demand_bad 2 _).mono ?_
    rintro e w6 ⟨rfl, rfl⟩
    exact ⟨rfl, rfl, HB5.out⟩
  · have h1 : decide ((p : Int) ≤ s.size) = false := decide_eq_false (by omega)
    go_enter Try.func43, Try.ntmps43
    go_wp2_with fail
    generalize w.alloc (.cells #[.int .i64 0, .string s] 49) = w1 at *
    refine (HL.out _).mono ?_
    rintro e w2 ⟨rfl, hb2⟩
    have HB2 := hid (HB.out.trans hb2)
    clear hb2 hwb
    go_wp2_with fail
    refine (demand_bad 2 _).mono ?_
    rintro e w3 ⟨rfl, rfl⟩
    exact ⟨rfl, rfl, HB2.out⟩
end Go.Proofs.Ytciaebhkemdilaa

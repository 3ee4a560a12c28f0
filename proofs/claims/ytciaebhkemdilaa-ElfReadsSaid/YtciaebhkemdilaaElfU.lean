/- The writer's head of a file (contract of the method). -/
import Derived.Test.YtciaebhkemdilaaElfO
namespace Go.Proofs.Ytciaebhkemdilaa
open Go.RowKit Go.Conc
set_option linter.unusedVariables false
set_option linter.unusedSimpArgs false
def pOf (n : Nat) : Nat := if n = 0 then 0 else 64
def headT (ty ma en fl sA n k : Nat) : ByteArray := magT ++ numsT 2 [ty, ma] ++ numsT 4 [1] ++ numsT 8 [en, pOf n, sA] ++ numsT 4 [fl] ++ numsT 2 [64, 56, n, 64, k + 2, k + 1]
theorem mag_size : magT.size = 16 := rfl
set_option maxRecDepth 100000 in
set_option maxHeartbeats 4000000 in
theorem whead_any (ty ma en fl sA n k : Nat) (a b2 : Option Addr) (c d : Nat) (hty : ty < 65536) (hma : ma < 65536) (hen : en < 18446744073709551616) (hfl : fl < 4294967296) (hsA : sA < 18446744073709551616) (hn : n ≤ 1000) (hk : k ≤ 1000) (B b : Nat) (s : ByteArray) (hs : s.size ≤ 90000000) (w : World) (hB : B ≤ w.heap.size) (h : WOk B b s w) :
    Calls Try.prog 29 #[.pointer (some ⟨b, 0, none⟩), .agg #[.int .i64 (ty : Nat), .int .i64 (ma : Nat), .int .u64 (en : Nat), .int .i64 (fl : Nat), .slice a n c, .slice b2 k d], .int .i64 sA] w fun e w' => e = .returned (.tuple #[]) ∧ WOk B b (s ++ headT ty ma en fl sA n k) w' ∧ BKeeps B b w w' := by
  have HS0 := hid (Has.new w 27 #[.int .i64 (ty : Nat), .int .i64 (ma : Nat), .int .u64 (en : Nat), .int .i64 (fl : Nat), .slice a n c, .slice b2 k d])
  have HW0 := hid (h.bw ((Bw.refl w).alloc (.cells #[.int .i64 (ty : Nat), .int .i64 (ma : Nat), .int .u64 (en : Nat), .int .i64 (fl : Nat), .slice a n c, .slice b2 k d] 27)))
  have HK0 := hid (BKeeps.of_bw (b := b) ((Bw.refl w).alloc (.cells #[.int .i64 (ty : Nat), .int .i64 (ma : Nat), .int .u64 (en : Nat), .int .i64 (fl : Nat), .slice a n c, .slice b2 k d] 27)) hB)
  obtain ⟨xb, hxb⟩ : ∃ xb, w.heap.size = xb := ⟨_, rfl⟩
  rw [hxb] at HS0
  obtain ⟨P, hP⟩ : ∃ P, pOf n = P := ⟨_, rfl⟩
  unfold headT
  rw [hP]
  have HPP := hid hP
  have hP9 : P ≤ 64 := by rw [← hP]; unfold pOf; split <;> omega
  have v1 : IntKind.u64.wrap (P : Int) = P := IntWalk.u64_in _ (by omega)
  have v2 : IntKind.u64.wrap (sA : Int) = sA := IntWalk.u64_in _ (by omega)
  have v3 : IntKind.i64.wrap (2 + (k : Int)) = ((k + 2 : Nat) : Int) := by rw [IntWalk.i64_in _ (by omega)]; omega
  have v4 : IntKind.i64.wrap (((k + 2 : Nat) : Int) - 1) = ((k + 1 : Nat) : Int) := by rw [IntWalk.i64_in _ (by omega)]; omega
  obtain ⟨k2, hk2⟩ : ∃ x, k + 2 = x := ⟨_, rfl⟩
  obtain ⟨k1, hk1⟩ : ∃ x, k + 1 = x := ⟨_, rfl⟩
  have hk29 : k2 ≤ 1002 := by omega
  have hk19 : k1 ≤ 1001 := by omega
  rw [hk2] at v3 v4 ⊢
  rw [hk1] at v4 ⊢
  clear h hP hk2 hk1
  go_enter Try.func29, Try.ntmps29
  go_upto_region 2 with fail
  generalize w.alloc (.cells #[.int .i64 (ty : Nat), .int .i64 (ma : Nat), .int .u64 (en : Nat), .int .i64 (fl : Nat), .slice a n c, .slice b2 k d] 27) = w0 at *
  have c4 : w0.cell? ⟨xb, 4, none⟩ = some (.slice a n c) := HS0.out.cell 4
  have c5 : w0.cell? ⟨xb, 5, none⟩ = some (.slice b2 k d) := HS0.out.cell 5
  by_cases h0 : n = 0
  · have t0 : ((n : Int) == 0) = true := beq_iff_eq.2 (by omega)
    have hPz : P = 0 := by rw [← HPP.out]; unfold pOf; rw [if_pos h0]
    have HPZ := hid hPz
    clear h0 hPz v1
    go_upto_region 5 with fail
    clear t0 c5
    have HMZ := hid mag_size
    have HWS := hid (strW (s := s) magT (by have := HMZ.out; omega) (Nat.le_trans hB HK0.out.2.1) (show WOk B b s w0 from HW0.out))
    go_wp2_with fail
    refine HWS.out.mono ?_
    rintro e w1 ⟨rfl, h1, h2⟩
    have HW1 := hid h1
    have HK1 := hid (HK0.out.trans h2)
    have HS1 := hid (h2.has HS0.out (WOk.ne HW0.out HS0.out (by decide)) (by decide))
    clear h1 h2 c4
    have d0 : w1.cell? ⟨xb, 0, none⟩ = some (.int .i64 ty) := HS1.out.cell 0
    have d1 : w1.cell? ⟨xb, 1, none⟩ = some (.int .i64 ma) := HS1.out.cell 1
    obtain ⟨gb1, hgb1⟩ : ∃ g, w1.heap.size = g := ⟨_, rfl⟩
    go_wp2_with fail
    have HG1 := hid (show Has (w1.alloc (.cells #[.int .i64 ty, .int .i64 ma] 3)) w1.heap.size 3 (List.map (fun (n : Nat) => Value.int .i64 n) [ty, ma]).toArray from Has.new w1 _ _)
    have HA1 := hid (HW1.out.bw ((Bw.refl w1).alloc (.cells #[.int .i64 ty, .int .i64 ma] 3)))
    have HKA1 := hid (HK1.out.trans (BKeeps.of_bw ((Bw.refl w1).alloc (.cells #[.int .i64 ty, .int .i64 ma] 3)) (Nat.le_trans hB HK1.out.2.1)))
    have HSA1 := hid (HS1.out.alloc (.cells #[.int .i64 ty, .int .i64 ma] 3))
    rw [hgb1] at HG1
    generalize w1.alloc (.cells #[.int .i64 ty, .int .i64 ma] 3) = v1 at *
    refine (halvesW [ty, ma] (by simp only [List.mem_cons, List.not_mem_nil, or_false, forall_eq_or_imp, forall_eq]; omega) (by simp) gb1 B b _ (by simp only [ByteArray.size_append, numsT_size, List.length_cons, List.length_nil]; have := HMZ.out; omega) v1 (Nat.le_trans hB HKA1.out.2.1) HA1.out HG1.out).mono ?_
    rintro e w2 ⟨rfl, h1, h2⟩
    have HW2 := hid h1
    have HK2 := hid (HKA1.out.trans h2)
    have HS2 := hid (h2.has HSA1.out (WOk.ne HA1.out HSA1.out (by decide)) (by decide))
    clear h1 h2 hgb1
    clear d0 d1
    obtain ⟨gb2, hgb2⟩ : ∃ g, w2.heap.size = g := ⟨_, rfl⟩
    go_wp2_with fail
    have HG2 := hid (show Has (w2.alloc (.cells #[.int .i64 1] 3)) w2.heap.size 3 (List.map (fun (n : Nat) => Value.int .i64 n) [1]).toArray from Has.new w2 _ _)
    have HA2 := hid (HW2.out.bw ((Bw.refl w2).alloc (.cells #[.int .i64 1] 3)))
    have HKA2 := hid (HK2.out.trans (BKeeps.of_bw ((Bw.refl w2).alloc (.cells #[.int .i64 1] 3)) (Nat.le_trans hB HK2.out.2.1)))
    have HSA2 := hid (HS2.out.alloc (.cells #[.int .i64 1] 3))
    rw [hgb2] at HG2
    generalize w2.alloc (.cells #[.int .i64 1] 3) = v2 at *
    refine (wordsW [1] (by simp only [List.mem_cons, List.not_mem_nil, or_false, forall_eq_or_imp, forall_eq]; omega) (by simp) gb2 B b _ (by simp only [ByteArray.size_append, numsT_size, List.length_cons, List.length_nil]; have := HMZ.out; omega) v2 (Nat.le_trans hB HKA2.out.2.1) HA2.out HG2.out).mono ?_
    rintro e w3 ⟨rfl, h1, h2⟩
    have HW3 := hid h1
    have HK3 := hid (HKA2.out.trans h2)
    have HS3 := hid (h2.has HSA2.out (WOk.ne HA2.out HSA2.out (by decide)) (by decide))
    clear h1 h2 hgb2
    have d2 : w3.cell? ⟨xb, 2, none⟩ = some (.int .u64 en) := HS3.out.cell 2
    obtain ⟨gb3, hgb3⟩ : ∃ g, w3.heap.size = g := ⟨_, rfl⟩
    go_wp2_with fail
    have HG3 := hid (show Has (w3.alloc (.cells #[.int .u64 en, .int .u64 0, .int .u64 sA] 23)) w3.heap.size 23 (List.map (fun (n : Nat) => Value.int .u64 n) [en, 0, sA]).toArray from Has.new w3 _ _)
    have HA3 := hid (HW3.out.bw ((Bw.refl w3).alloc (.cells #[.int .u64 en, .int .u64 0, .int .u64 sA] 23)))
    have HKA3 := hid (HK3.out.trans (BKeeps.of_bw ((Bw.refl w3).alloc (.cells #[.int .u64 en, .int .u64 0, .int .u64 sA] 23)) (Nat.le_trans hB HK3.out.2.1)))
    have HSA3 := hid (HS3.out.alloc (.cells #[.int .u64 en, .int .u64 0, .int .u64 sA] 23))
    rw [hgb3] at HG3
    generalize w3.alloc (.cells #[.int .u64 en, .int .u64 0, .int .u64 sA] 23) = v3 at *
    refine (longsW [en, 0, sA] (by simp only [List.mem_cons, List.not_mem_nil, or_false, forall_eq_or_imp, forall_eq]; omega) (by simp) gb3 B b _ (by simp only [ByteArray.size_append, numsT_size, List.length_cons, List.length_nil]; have := HMZ.out; omega) v3 (Nat.le_trans hB HKA3.out.2.1) HA3.out HG3.out).mono ?_
    rintro e w4 ⟨rfl, h1, h2⟩
    have HW4 := hid h1
    have HK4 := hid (HKA3.out.trans h2)
    have HS4 := hid (h2.has HSA3.out (WOk.ne HA3.out HSA3.out (by decide)) (by decide))
    clear h1 h2 hgb3
    clear d2
    have d3 : w4.cell? ⟨xb, 3, none⟩ = some (.int .i64 fl) := HS4.out.cell 3
    obtain ⟨gb4, hgb4⟩ : ∃ g, w4.heap.size = g := ⟨_, rfl⟩
    go_wp2_with fail
    have HG4 := hid (show Has (w4.alloc (.cells #[.int .i64 fl] 3)) w4.heap.size 3 (List.map (fun (n : Nat) => Value.int .i64 n) [fl]).toArray from Has.new w4 _ _)
    have HA4 := hid (HW4.out.bw ((Bw.refl w4).alloc (.cells #[.int .i64 fl] 3)))
    have HKA4 := hid (HK4.out.trans (BKeeps.of_bw ((Bw.refl w4).alloc (.cells #[.int .i64 fl] 3)) (Nat.le_trans hB HK4.out.2.1)))
    have HSA4 := hid (HS4.out.alloc (.cells #[.int .i64 fl] 3))
    rw [hgb4] at HG4
    generalize w4.alloc (.cells #[.int .i64 fl] 3) = v4 at *
    refine (wordsW [fl] (by simp only [List.mem_cons, List.not_mem_nil, or_false, forall_eq_or_imp, forall_eq]; omega) (by simp) gb4 B b _ (by simp only [ByteArray.size_append, numsT_size, List.length_cons, List.length_nil]; have := HMZ.out; omega) v4 (Nat.le_trans hB HKA4.out.2.1) HA4.out HG4.out).mono ?_
    rintro e w5 ⟨rfl, h1, h2⟩
    have HW5 := hid h1
    have HK5 := hid (HKA4.out.trans h2)
    have HS5 := hid (h2.has HSA4.out (WOk.ne HA4.out HSA4.out (by decide)) (by decide))
    clear h1 h2 hgb4
    clear d3
    have d4 : w5.cell? ⟨xb, 4, none⟩ = some (.slice a n c) := HS5.out.cell 4
    obtain ⟨gb5, hgb5⟩ : ∃ g, w5.heap.size = g := ⟨_, rfl⟩
    go_wp2_with fail
    have HG5 := hid (show Has (w5.alloc (.cells #[.int .i64 64, .int .i64 56, .int .i64 n, .int .i64 64, .int .i64 k2, .int .i64 k1] 3)) w5.heap.size 3 (List.map (fun (n : Nat) => Value.int .i64 n) [64, 56, n, 64, k2, k1]).toArray from Has.new w5 _ _)
    have HA5 := hid (HW5.out.bw ((Bw.refl w5).alloc (.cells #[.int .i64 64, .int .i64 56, .int .i64 n, .int .i64 64, .int .i64 k2, .int .i64 k1] 3)))
    have HKA5 := hid (HK5.out.trans (BKeeps.of_bw ((Bw.refl w5).alloc (.cells #[.int .i64 64, .int .i64 56, .int .i64 n, .int .i64 64, .int .i64 k2, .int .i64 k1] 3)) (Nat.le_trans hB HK5.out.2.1)))
    have HSA5 := hid (HS5.out.alloc (.cells #[.int .i64 64, .int .i64 56, .int .i64 n, .int .i64 64, .int .i64 k2, .int .i64 k1] 3))
    rw [hgb5] at HG5
    generalize w5.alloc (.cells #[.int .i64 64, .int .i64 56, .int .i64 n, .int .i64 64, .int .i64 k2, .int .i64 k1] 3) = v5 at *
    refine (halvesW [64, 56, n, 64, k2, k1] (by simp only [List.mem_cons, List.not_mem_nil, or_false, forall_eq_or_imp, forall_eq]; omega) (by simp) gb5 B b _ (by simp only [ByteArray.size_append, numsT_size, List.length_cons, List.length_nil]; have := HMZ.out; omega) v5 (Nat.le_trans hB HKA5.out.2.1) HA5.out HG5.out).mono ?_
    rintro e w6 ⟨rfl, h1, h2⟩
    have HW6 := hid h1
    have HK6 := hid (HKA5.out.trans h2)
    have HS6 := hid (h2.has HSA5.out (WOk.ne HA5.out HSA5.out (by decide)) (by decide))
    clear h1 h2 hgb5
    clear d4
    go_wp2
    go_returns
    exact ⟨rfl, by rw [HPZ.out]; simp only [← app_as]; exact HW6.out, HK6.out⟩
  · have t0 : ((n : Int) == 0) = false := beq_eq_false_iff_ne.2 (by omega)
    have hPz : P = 64 := by rw [← HPP.out]; unfold pOf; rw [if_neg h0]
    have HPZ := hid hPz
    clear h0 hPz v1
    go_upto_region 5 with fail
    clear t0 c5
    have HMZ := hid mag_size
    have HWS := hid (strW (s := s) magT (by have := HMZ.out; omega) (Nat.le_trans hB HK0.out.2.1) (show WOk B b s w0 from HW0.out))
    go_wp2_with fail
    refine HWS.out.mono ?_
    rintro e w1 ⟨rfl, h1, h2⟩
    have HW1 := hid h1
    have HK1 := hid (HK0.out.trans h2)
    have HS1 := hid (h2.has HS0.out (WOk.ne HW0.out HS0.out (by decide)) (by decide))
    clear h1 h2 c4
    have d0 : w1.cell? ⟨xb, 0, none⟩ = some (.int .i64 ty) := HS1.out.cell 0
    have d1 : w1.cell? ⟨xb, 1, none⟩ = some (.int .i64 ma) := HS1.out.cell 1
    obtain ⟨gb1, hgb1⟩ : ∃ g, w1.heap.size = g := ⟨_, rfl⟩
    go_wp2_with fail
    have HG1 := hid (show Has (w1.alloc (.cells #[.int .i64 ty, .int .i64 ma] 3)) w1.heap.size 3 (List.map (fun (n : Nat) => Value.int .i64 n) [ty, ma]).toArray from Has.new w1 _ _)
    have HA1 := hid (HW1.out.bw ((Bw.refl w1).alloc (.cells #[.int .i64 ty, .int .i64 ma] 3)))
    have HKA1 := hid (HK1.out.trans (BKeeps.of_bw ((Bw.refl w1).alloc (.cells #[.int .i64 ty, .int .i64 ma] 3)) (Nat.le_trans hB HK1.out.2.1)))
    have HSA1 := hid (HS1.out.alloc (.cells #[.int .i64 ty, .int .i64 ma] 3))
    rw [hgb1] at HG1
    generalize w1.alloc (.cells #[.int .i64 ty, .int .i64 ma] 3) = v1 at *
    refine (halvesW [ty, ma] (by simp only [List.mem_cons, List.not_mem_nil, or_false, forall_eq_or_imp, forall_eq]; omega) (by simp) gb1 B b _ (by simp only [ByteArray.size_append, numsT_size, List.length_cons, List.length_nil]; have := HMZ.out; omega) v1 (Nat.le_trans hB HKA1.out.2.1) HA1.out HG1.out).mono ?_
    rintro e w2 ⟨rfl, h1, h2⟩
    have HW2 := hid h1
    have HK2 := hid (HKA1.out.trans h2)
    have HS2 := hid (h2.has HSA1.out (WOk.ne HA1.out HSA1.out (by decide)) (by decide))
    clear h1 h2 hgb1
    clear d0 d1
    obtain ⟨gb2, hgb2⟩ : ∃ g, w2.heap.size = g := ⟨_, rfl⟩
    go_wp2_with fail
    have HG2 := hid (show Has (w2.alloc (.cells #[.int .i64 1] 3)) w2.heap.size 3 (List.map (fun (n : Nat) => Value.int .i64 n) [1]).toArray from Has.new w2 _ _)
    have HA2 := hid (HW2.out.bw ((Bw.refl w2).alloc (.cells #[.int .i64 1] 3)))
    have HKA2 := hid (HK2.out.trans (BKeeps.of_bw ((Bw.refl w2).alloc (.cells #[.int .i64 1] 3)) (Nat.le_trans hB HK2.out.2.1)))
    have HSA2 := hid (HS2.out.alloc (.cells #[.int .i64 1] 3))
    rw [hgb2] at HG2
    generalize w2.alloc (.cells #[.int .i64 1] 3) = v2 at *
    refine (wordsW [1] (by simp only [List.mem_cons, List.not_mem_nil, or_false, forall_eq_or_imp, forall_eq]; omega) (by simp) gb2 B b _ (by simp only [ByteArray.size_append, numsT_size, List.length_cons, List.length_nil]; have := HMZ.out; omega) v2 (Nat.le_trans hB HKA2.out.2.1) HA2.out HG2.out).mono ?_
    rintro e w3 ⟨rfl, h1, h2⟩
    have HW3 := hid h1
    have HK3 := hid (HKA2.out.trans h2)
    have HS3 := hid (h2.has HSA2.out (WOk.ne HA2.out HSA2.out (by decide)) (by decide))
    clear h1 h2 hgb2
    have d2 : w3.cell? ⟨xb, 2, none⟩ = some (.int .u64 en) := HS3.out.cell 2
    obtain ⟨gb3, hgb3⟩ : ∃ g, w3.heap.size = g := ⟨_, rfl⟩
    go_wp2_with fail
    have HG3 := hid (show Has (w3.alloc (.cells #[.int .u64 en, .int .u64 64, .int .u64 sA] 23)) w3.heap.size 23 (List.map (fun (n : Nat) => Value.int .u64 n) [en, 64, sA]).toArray from Has.new w3 _ _)
    have HA3 := hid (HW3.out.bw ((Bw.refl w3).alloc (.cells #[.int .u64 en, .int .u64 64, .int .u64 sA] 23)))
    have HKA3 := hid (HK3.out.trans (BKeeps.of_bw ((Bw.refl w3).alloc (.cells #[.int .u64 en, .int .u64 64, .int .u64 sA] 23)) (Nat.le_trans hB HK3.out.2.1)))
    have HSA3 := hid (HS3.out.alloc (.cells #[.int .u64 en, .int .u64 64, .int .u64 sA] 23))
    rw [hgb3] at HG3
    generalize w3.alloc (.cells #[.int .u64 en, .int .u64 64, .int .u64 sA] 23) = v3 at *
    refine (longsW [en, 64, sA] (by simp only [List.mem_cons, List.not_mem_nil, or_false, forall_eq_or_imp, forall_eq]; omega) (by simp) gb3 B b _ (by simp only [ByteArray.size_append, numsT_size, List.length_cons, List.length_nil]; have := HMZ.out; omega) v3 (Nat.le_trans hB HKA3.out.2.1) HA3.out HG3.out).mono ?_
    rintro e w4 ⟨rfl, h1, h2⟩
    have HW4 := hid h1
    have HK4 := hid (HKA3.out.trans h2)
    have HS4 := hid (h2.has HSA3.out (WOk.ne HA3.out HSA3.out (by decide)) (by decide))
    clear h1 h2 hgb3
    clear d2
    have d3 : w4.cell? ⟨xb, 3, none⟩ = some (.int .i64 fl) := HS4.out.cell 3
    obtain ⟨gb4, hgb4⟩ : ∃ g, w4.heap.size = g := ⟨_, rfl⟩
    go_wp2_with fail
    have HG4 := hid (show Has (w4.alloc (.cells #[.int .i64 fl] 3)) w4.heap.size 3 (List.map (fun (n : Nat) => Value.int .i64 n) [fl]).toArray from Has.new w4 _ _)
    have HA4 := hid (HW4.out.bw ((Bw.refl w4).alloc (.cells #[.int .i64 fl] 3)))
    have HKA4 := hid (HK4.out.trans (BKeeps.of_bw ((Bw.refl w4).alloc (.cells #[.int .i64 fl] 3)) (Nat.le_trans hB HK4.out.2.1)))
    have HSA4 := hid (HS4.out.alloc (.cells #[.int .i64 fl] 3))
    rw [hgb4] at HG4
    generalize w4.alloc (.cells #[.int .i64 fl] 3) = v4 at *
    refine (wordsW [fl] (by simp only [List.mem_cons, List.not_mem_nil, or_false, forall_eq_or_imp, forall_eq]; omega) (by simp) gb4 B b _ (by simp only [ByteArray.size_append, numsT_size, List.length_cons, List.length_nil]; have := HMZ.out; omega) v4 (Nat.le_trans hB HKA4.out.2.1) HA4.out HG4.out).mono ?_
    rintro e w5 ⟨rfl, h1, h2⟩
    have HW5 := hid h1
    have HK5 := hid (HKA4.out.trans h2)
    have HS5 := hid (h2.has HSA4.out (WOk.ne HA4.out HSA4.out (by decide)) (by decide))
    clear h1 h2 hgb4
    clear d3
    have d4 : w5.cell? ⟨xb, 4, none⟩ = some (.slice a n c) := HS5.out.cell 4
    obtain ⟨gb5, hgb5⟩ : ∃ g, w5.heap.size = g := ⟨_, rfl⟩
    go_wp2_with fail
    have HG5 := hid (show Has (w5.alloc (.cells #[.int .i64 64, .int .i64 56, .int .i64 n, .int .i64 64, .int .i64 k2, .int .i64 k1] 3)) w5.heap.size 3 (List.map (fun (n : Nat) => Value.int .i64 n) [64, 56, n, 64, k2, k1]).toArray from Has.new w5 _ _)
    have HA5 := hid (HW5.out.bw ((Bw.refl w5).alloc (.cells #[.int .i64 64, .int .i64 56, .int .i64 n, .int .i64 64, .int .i64 k2, .int .i64 k1] 3)))
    have HKA5 := hid (HK5.out.trans (BKeeps.of_bw ((Bw.refl w5).alloc (.cells #[.int .i64 64, .int .i64 56, .int .i64 n, .int .i64 64, .int .i64 k2, .int .i64 k1] 3)) (Nat.le_trans hB HK5.out.2.1)))
    have HSA5 := hid (HS5.out.alloc (.cells #[.int .i64 64, .int .i64 56, .int .i64 n, .int .i64 64, .int .i64 k2, .int .i64 k1] 3))
    rw [hgb5] at HG5
    generalize w5.alloc (.cells #[.int .i64 64, .int .i64 56, .int .i64 n, .int .i64 64, .int .i64 k2, .int .i64 k1] 3) = v5 at *
    refine (halvesW [64, 56, n, 64, k2, k1] (by simp only [List.mem_cons, List.not_mem_nil, or_false, forall_eq_or_imp, forall_eq]; omega) (by simp) gb5 B b _ (by simp only [ByteArray.size_append, numsT_size, List.length_cons, List.length_nil]; have := HMZ.out; omega) v5 (Nat.le_trans hB HKA5.out.2.1) HA5.out HG5.out).mono ?_
    rintro e w6 ⟨rfl, h1, h2⟩
    have HW6 := hid h1
    have HK6 := hid (HKA5.out.trans h2)
    have HS6 := hid (h2.has HSA5.out (WOk.ne HA5.out HSA5.out (by decide)) (by decide))
    clear h1 h2 hgb5
    clear d4
    go_wp2
    go_returns
    exact ⟨rfl, by rw [HPZ.out]; simp only [← app_as]; exact HW6.out, HK6.out⟩
end Go.Proofs.Ytciaebhkemdilaa

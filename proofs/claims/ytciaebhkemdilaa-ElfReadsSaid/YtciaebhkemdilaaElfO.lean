/- The writer's headers of a segment, a section and the file (contracts of the methods). -/
import Derived.Test.YtciaebhkemdilaaElfN
namespace Go.Proofs.Ytciaebhkemdilaa
open Go.RowKit Go.Conc
set_option linter.unusedVariables false
set_option linter.unusedSimpArgs false
def segT (t f of va pa fz ms al : Nat) : ByteArray := numsT 4 [t, f] ++ numsT 8 [of, va, pa, fz, ms, al]
set_option maxRecDepth 100000 in
set_option maxHeartbeats 4000000 in
theorem wsegment_any (t f of va pa fz ms al : Nat) (ht : t < 4294967296) (hf : f < 4294967296) (hof : of < 18446744073709551616) (hva : va < 18446744073709551616) (hpa : pa < 18446744073709551616) (hfz : fz < 18446744073709551616) (hms : ms < 18446744073709551616) (hal : al < 18446744073709551616) (B b : Nat) (s : ByteArray) (hs : s.size ≤ 90000000) (w : World) (hB : B ≤ w.heap.size) (h : WOk B b s w) :
    Calls Try.prog 31 #[.pointer (some ⟨b, 0, none⟩), .agg #[.int .i64 (t : Nat), .int .i64 (f : Nat), .int .i64 (of : Nat), .int .u64 (va : Nat), .int .u64 (pa : Nat), .int .i64 (fz : Nat), .int .u64 (ms : Nat), .int .u64 (al : Nat)]] w fun e w' => e = .returned (.tuple #[]) ∧ WOk B b (s ++ segT t f of va pa fz ms al) w' ∧ BKeeps B b w w' := by
  have HS1 := hid (Has.new w 61 #[.int .i64 (t : Nat), .int .i64 (f : Nat), .int .i64 (of : Nat), .int .u64 (va : Nat), .int .u64 (pa : Nat), .int .i64 (fz : Nat), .int .u64 (ms : Nat), .int .u64 (al : Nat)])
  have HW1 := hid (h.bw ((Bw.refl w).alloc (.cells #[.int .i64 (t : Nat), .int .i64 (f : Nat), .int .i64 (of : Nat), .int .u64 (va : Nat), .int .u64 (pa : Nat), .int .i64 (fz : Nat), .int .u64 (ms : Nat), .int .u64 (al : Nat)] 61)))
  have HK1 := hid (BKeeps.of_bw (b := b) ((Bw.refl w).alloc (.cells #[.int .i64 (t : Nat), .int .i64 (f : Nat), .int .i64 (of : Nat), .int .u64 (va : Nat), .int .u64 (pa : Nat), .int .i64 (fz : Nat), .int .u64 (ms : Nat), .int .u64 (al : Nat)] 61)) hB)
  obtain ⟨xb, hxb⟩ : ∃ xb, w.heap.size = xb := ⟨_, rfl⟩
  rw [hxb] at HS1
  have v1 : IntKind.u64.wrap (of : Int) = of := IntWalk.u64_in _ (by omega)
  have v2 : IntKind.u64.wrap (fz : Int) = fz := IntWalk.u64_in _ (by omega)
  clear h
  go_enter Try.func31, Try.ntmps31
  go_upto_region 1 with fail
  generalize w.alloc (.cells #[.int .i64 (t : Nat), .int .i64 (f : Nat), .int .i64 (of : Nat), .int .u64 (va : Nat), .int .u64 (pa : Nat), .int .i64 (fz : Nat), .int .u64 (ms : Nat), .int .u64 (al : Nat)] 61) = w1 at *
  have c0 : w1.cell? ⟨xb, 0, none⟩ = some (.int .i64 t) := HS1.out.cell 0
  have c1 : w1.cell? ⟨xb, 1, none⟩ = some (.int .i64 f) := HS1.out.cell 1
  obtain ⟨gb1, hgb1⟩ : ∃ g, w1.heap.size = g := ⟨_, rfl⟩
  go_wp2_with fail
  have HG1 := hid (show Has (w1.alloc (.cells #[.int .i64 t, .int .i64 f] 3)) w1.heap.size 3 (List.map (fun (n : Nat) => Value.int .i64 n) [t, f]).toArray from Has.new w1 _ _)
  have HA1 := hid (HW1.out.bw ((Bw.refl w1).alloc (.cells #[.int .i64 t, .int .i64 f] 3)))
  have HKA1 := hid (HK1.out.trans (BKeeps.of_bw ((Bw.refl w1).alloc (.cells #[.int .i64 t, .int .i64 f] 3)) (Nat.le_trans hB HK1.out.2.1)))
  have HSA1 := hid (HS1.out.alloc (.cells #[.int .i64 t, .int .i64 f] 3))
  rw [hgb1] at HG1
  generalize w1.alloc (.cells #[.int .i64 t, .int .i64 f] 3) = v1 at *
  refine (wordsW [t, f] (by simp only [List.mem_cons, List.not_mem_nil, or_false, forall_eq_or_imp, forall_eq]; omega) (by simp) gb1 B b _ (by omega) v1 (Nat.le_trans hB HKA1.out.2.1) HA1.out HG1.out).mono ?_
  rintro e w2 ⟨rfl, h1, h2⟩
  have HW2 := hid h1
  have HK2 := hid (HKA1.out.trans h2)
  have HS2 := hid (h2.has HSA1.out (WOk.ne HA1.out HSA1.out (by decide)) (by decide))
  clear h1 h2 hgb1
  have d2 : w2.cell? ⟨xb, 2, none⟩ = some (.int .i64 of) := HS2.out.cell 2
  have d3 : w2.cell? ⟨xb, 3, none⟩ = some (.int .u64 va) := HS2.out.cell 3
  have d4 : w2.cell? ⟨xb, 4, none⟩ = some (.int .u64 pa) := HS2.out.cell 4
  have d5 : w2.cell? ⟨xb, 5, none⟩ = some (.int .i64 fz) := HS2.out.cell 5
  have d6 : w2.cell? ⟨xb, 6, none⟩ = some (.int .u64 ms) := HS2.out.cell 6
  have d7 : w2.cell? ⟨xb, 7, none⟩ = some (.int .u64 al) := HS2.out.cell 7
  clear c0 c1
  obtain ⟨gb2, hgb2⟩ : ∃ g, w2.heap.size = g := ⟨_, rfl⟩
  go_wp2_with fail
  have HG2 := hid (show Has (w2.alloc (.cells #[.int .u64 of, .int .u64 va, .int .u64 pa, .int .u64 fz, .int .u64 ms, .int .u64 al] 23)) w2.heap.size 23 (List.map (fun (n : Nat) => Value.int .u64 n) [of, va, pa, fz, ms, al]).toArray from Has.new w2 _ _)
  have HA2 := hid (HW2.out.bw ((Bw.refl w2).alloc (.cells #[.int .u64 of, .int .u64 va, .int .u64 pa, .int .u64 fz, .int .u64 ms, .int .u64 al] 23)))
  have HKA2 := hid (HK2.out.trans (BKeeps.of_bw ((Bw.refl w2).alloc (.cells #[.int .u64 of, .int .u64 va, .int .u64 pa, .int .u64 fz, .int .u64 ms, .int .u64 al] 23)) (Nat.le_trans hB HK2.out.2.1)))
  have HSA2 := hid (HS2.out.alloc (.cells #[.int .u64 of, .int .u64 va, .int .u64 pa, .int .u64 fz, .int .u64 ms, .int .u64 al] 23))
  rw [hgb2] at HG2
  generalize w2.alloc (.cells #[.int .u64 of, .int .u64 va, .int .u64 pa, .int .u64 fz, .int .u64 ms, .int .u64 al] 23) = v2 at *
  refine (longsW [of, va, pa, fz, ms, al] (by simp only [List.mem_cons, List.not_mem_nil, or_false, forall_eq_or_imp, forall_eq]; omega) (by simp) gb2 B b _ (by rw [ByteArray.size_append, numsT_size]; simp only [List.length_cons, List.length_nil]; omega) v2 (Nat.le_trans hB HKA2.out.2.1) HA2.out HG2.out).mono ?_
  rintro e w3 ⟨rfl, h1, h2⟩
  have HW3 := hid h1
  have HK3 := hid (HKA2.out.trans h2)
  have HS3 := hid (h2.has HSA2.out (WOk.ne HA2.out HSA2.out (by decide)) (by decide))
  clear h1 h2 hgb2
  clear d2 d3 d4 d5 d6 d7
  go_wp2
  go_returns
  exact ⟨rfl, by unfold segT; rw [← app_as]; exact HW3.out, HK3.out⟩
def shT (name typ fl ad at_ sz lk inf al ea : Nat) : ByteArray := numsT 4 [name, typ] ++ numsT 8 [fl, ad, at_, sz] ++ numsT 4 [lk, inf] ++ numsT 8 [al, ea]
set_option maxRecDepth 100000 in
set_option maxHeartbeats 4000000 in
theorem wsection_any (nm dt : ByteArray) (ty fl ad sz lk inf al ea na at_ : Nat) (hty : ty < 4294967296) (hfl : fl < 18446744073709551616) (had : ad < 18446744073709551616) (hsz : sz < 18446744073709551616) (hlk : lk < 4294967296) (hin : inf < 4294967296) (hal : al < 18446744073709551616) (hea : ea < 18446744073709551616) (hna : na < 4294967296) (hat : at_ < 18446744073709551616) (hdt : dt.size ≤ 1000000000) (B b : Nat) (s : ByteArray) (hs : s.size ≤ 90000000) (w : World) (hB : B ≤ w.heap.size) (h : WOk B b s w) :
    Calls Try.prog 34 #[.pointer (some ⟨b, 0, none⟩), .agg #[.string nm, .int .i64 (ty : Nat), .int .u64 (fl : Nat), .int .u64 (ad : Nat), .string dt, .int .i64 (sz : Nat), .int .i64 (lk : Nat), .int .i64 (inf : Nat), .int .u64 (al : Nat), .int .u64 (ea : Nat), .int .i64 (na : Nat), .int .i64 (at_ : Nat)]] w fun e w' => e = .returned (.tuple #[]) ∧ WOk B b (s ++ shT na ty fl ad at_ (if ty = 8 then sz else dt.size) lk inf al ea) w' ∧ BKeeps B b w w' := by
  have HS1 := hid (Has.new w 74 #[.string nm, .int .i64 (ty : Nat), .int .u64 (fl : Nat), .int .u64 (ad : Nat), .string dt, .int .i64 (sz : Nat), .int .i64 (lk : Nat), .int .i64 (inf : Nat), .int .u64 (al : Nat), .int .u64 (ea : Nat), .int .i64 (na : Nat), .int .i64 (at_ : Nat)])
  have HW1 := hid (h.bw ((Bw.refl w).alloc (.cells #[.string nm, .int .i64 (ty : Nat), .int .u64 (fl : Nat), .int .u64 (ad : Nat), .string dt, .int .i64 (sz : Nat), .int .i64 (lk : Nat), .int .i64 (inf : Nat), .int .u64 (al : Nat), .int .u64 (ea : Nat), .int .i64 (na : Nat), .int .i64 (at_ : Nat)] 74)))
  have HK1 := hid (BKeeps.of_bw (b := b) ((Bw.refl w).alloc (.cells #[.string nm, .int .i64 (ty : Nat), .int .u64 (fl : Nat), .int .u64 (ad : Nat), .string dt, .int .i64 (sz : Nat), .int .i64 (lk : Nat), .int .i64 (inf : Nat), .int .u64 (al : Nat), .int .u64 (ea : Nat), .int .i64 (na : Nat), .int .i64 (at_ : Nat)] 74)) hB)
  obtain ⟨xb, hxb⟩ : ∃ xb, w.heap.size = xb := ⟨_, rfl⟩
  rw [hxb] at HS1
  obtain ⟨S, hS⟩ : ∃ S, (if ty = 8 then sz else dt.size) = S := ⟨_, rfl⟩
  rw [hS]
  have hS9 : S < 18446744073709551616 := by rw [← hS]; split <;> omega
  have HSS := hid hS
  have v1 : IntKind.u64.wrap (at_ : Int) = at_ := IntWalk.u64_in _ (by omega)
  have v2 : IntKind.u64.wrap (S : Int) = S := IntWalk.u64_in _ (by omega)
  clear h hS
  go_enter Try.func34, Try.ntmps34
  go_upto_region 1 with fail
  generalize w.alloc (.cells #[.string nm, .int .i64 (ty : Nat), .int .u64 (fl : Nat), .int .u64 (ad : Nat), .string dt, .int .i64 (sz : Nat), .int .i64 (lk : Nat), .int .i64 (inf : Nat), .int .u64 (al : Nat), .int .u64 (ea : Nat), .int .i64 (na : Nat), .int .i64 (at_ : Nat)] 74) = w1 at *
  have c1 : w1.cell? ⟨xb, 1, none⟩ = some (.int .i64 ty) := HS1.out.cell 1
  have c4 : w1.cell? ⟨xb, 4, none⟩ = some (.string dt) := HS1.out.cell 4
  have c5 : w1.cell? ⟨xb, 5, none⟩ = some (.int .i64 sz) := HS1.out.cell 5
  have c10 : w1.cell? ⟨xb, 10, none⟩ = some (.int .i64 na) := HS1.out.cell 10
  by_cases h8 : ty = 8
  case' pos =>
    have t8 : ((ty : Int) == 8) = true := beq_iff_eq.2 (by omega)
    have hSz : sz = S := by rw [← HSS.out, if_pos h8]
    clear h8
    go_upto_region 4 with fail
    try rw [hSz]
  case' neg =>
    have t8 : ((ty : Int) == 8) = false := beq_eq_false_iff_ne.2 (by omega)
    have hSz : dt.size = S := by rw [← HSS.out, if_neg h8]
    clear h8
    go_upto_region 4 with fail
    try rw [hSz]
  all_goals
    clear t8
    obtain ⟨gb1, hgb1⟩ : ∃ g, w1.heap.size = g := ⟨_, rfl⟩
    go_wp2_with fail
    have HG1 := hid (show Has (w1.alloc (.cells #[.int .i64 na, .int .i64 ty] 3)) w1.heap.size 3 (List.map (fun (n : Nat) => Value.int .i64 n) [na, ty]).toArray from Has.new w1 _ _)
    have HA1 := hid (HW1.out.bw ((Bw.refl w1).alloc (.cells #[.int .i64 na, .int .i64 ty] 3)))
    have HKA1 := hid (HK1.out.trans (BKeeps.of_bw ((Bw.refl w1).alloc (.cells #[.int .i64 na, .int .i64 ty] 3)) (Nat.le_trans hB HK1.out.2.1)))
    have HSA1 := hid (HS1.out.alloc (.cells #[.int .i64 na, .int .i64 ty] 3))
    rw [hgb1] at HG1
    generalize w1.alloc (.cells #[.int .i64 na, .int .i64 ty] 3) = v1 at *
    refine (wordsW [na, ty] (by simp only [List.mem_cons, List.not_mem_nil, or_false, forall_eq_or_imp, forall_eq]; omega) (by simp) gb1 B b _ (by omega) v1 (Nat.le_trans hB HKA1.out.2.1) HA1.out HG1.out).mono ?_
    rintro e w2 ⟨rfl, h1, h2⟩
    have HW2 := hid h1
    have HK2 := hid (HKA1.out.trans h2)
    have HS2 := hid (h2.has HSA1.out (WOk.ne HA1.out HSA1.out (by decide)) (by decide))
    clear h1 h2 hgb1
    clear c1 c4 c5 c10
    have d2 : w2.cell? ⟨xb, 2, none⟩ = some (.int .u64 fl) := HS2.out.cell 2
    have d3 : w2.cell? ⟨xb, 3, none⟩ = some (.int .u64 ad) := HS2.out.cell 3
    have d11 : w2.cell? ⟨xb, 11, none⟩ = some (.int .i64 at_) := HS2.out.cell 11
    obtain ⟨gb2, hgb2⟩ : ∃ g, w2.heap.size = g := ⟨_, rfl⟩
    go_wp2_with fail
    have HG2 := hid (show Has (w2.alloc (.cells #[.int .u64 fl, .int .u64 ad, .int .u64 at_, .int .u64 S] 23)) w2.heap.size 23 (List.map (fun (n : Nat) => Value.int .u64 n) [fl, ad, at_, S]).toArray from Has.new w2 _ _)
    have HA2 := hid (HW2.out.bw ((Bw.refl w2).alloc (.cells #[.int .u64 fl, .int .u64 ad, .int .u64 at_, .int .u64 S] 23)))
    have HKA2 := hid (HK2.out.trans (BKeeps.of_bw ((Bw.refl w2).alloc (.cells #[.int .u64 fl, .int .u64 ad, .int .u64 at_, .int .u64 S] 23)) (Nat.le_trans hB HK2.out.2.1)))
    have HSA2 := hid (HS2.out.alloc (.cells #[.int .u64 fl, .int .u64 ad, .int .u64 at_, .int .u64 S] 23))
    rw [hgb2] at HG2
    generalize w2.alloc (.cells #[.int .u64 fl, .int .u64 ad, .int .u64 at_, .int .u64 S] 23) = v2 at *
    refine (longsW [fl, ad, at_, S] (by simp only [List.mem_cons, List.not_mem_nil, or_false, forall_eq_or_imp, forall_eq]; omega) (by simp) gb2 B b _ (by rw [ByteArray.size_append, numsT_size]; simp only [List.length_cons, List.length_nil]; omega) v2 (Nat.le_trans hB HKA2.out.2.1) HA2.out HG2.out).mono ?_
    rintro e w3 ⟨rfl, h1, h2⟩
    have HW3 := hid h1
    have HK3 := hid (HKA2.out.trans h2)
    have HS3 := hid (h2.has HSA2.out (WOk.ne HA2.out HSA2.out (by decide)) (by decide))
    clear h1 h2 hgb2
    clear d2 d3 d11
    have d6 : w3.cell? ⟨xb, 6, none⟩ = some (.int .i64 lk) := HS3.out.cell 6
    have d7 : w3.cell? ⟨xb, 7, none⟩ = some (.int .i64 inf) := HS3.out.cell 7
    obtain ⟨gb3, hgb3⟩ : ∃ g, w3.heap.size = g := ⟨_, rfl⟩
    go_wp2_with fail
    have HG3 := hid (show Has (w3.alloc (.cells #[.int .i64 lk, .int .i64 inf] 3)) w3.heap.size 3 (List.map (fun (n : Nat) => Value.int .i64 n) [lk, inf]).toArray from Has.new w3 _ _)
    have HA3 := hid (HW3.out.bw ((Bw.refl w3).alloc (.cells #[.int .i64 lk, .int .i64 inf] 3)))
    have HKA3 := hid (HK3.out.trans (BKeeps.of_bw ((Bw.refl w3).alloc (.cells #[.int .i64 lk, .int .i64 inf] 3)) (Nat.le_trans hB HK3.out.2.1)))
    have HSA3 := hid (HS3.out.alloc (.cells #[.int .i64 lk, .int .i64 inf] 3))
    rw [hgb3] at HG3
    generalize w3.alloc (.cells #[.int .i64 lk, .int .i64 inf] 3) = v3 at *
    refine (wordsW [lk, inf] (by simp only [List.mem_cons, List.not_mem_nil, or_false, forall_eq_or_imp, forall_eq]; omega) (by simp) gb3 B b _ (by rw [ByteArray.size_append, ByteArray.size_append, numsT_size, numsT_size]; simp only [List.length_cons, List.length_nil]; omega) v3 (Nat.le_trans hB HKA3.out.2.1) HA3.out HG3.out).mono ?_
    rintro e w4 ⟨rfl, h1, h2⟩
    have HW4 := hid h1
    have HK4 := hid (HKA3.out.trans h2)
    have HS4 := hid (h2.has HSA3.out (WOk.ne HA3.out HSA3.out (by decide)) (by decide))
    clear h1 h2 hgb3
    clear d6 d7
    have d8 : w4.cell? ⟨xb, 8, none⟩ = some (.int .u64 al) := HS4.out.cell 8
    have d9 : w4.cell? ⟨xb, 9, none⟩ = some (.int .u64 ea) := HS4.out.cell 9
    obtain ⟨gb4, hgb4⟩ : ∃ g, w4.heap.size = g := ⟨_, rfl⟩
    go_wp2_with fail
    have HG4 := hid (show Has (w4.alloc (.cells #[.int .u64 al, .int .u64 ea] 23)) w4.heap.size 23 (List.map (fun (n : Nat) => Value.int .u64 n) [al, ea]).toArray from Has.new w4 _ _)
    have HA4 := hid (HW4.out.bw ((Bw.refl w4).alloc (.cells #[.int .u64 al, .int .u64 ea] 23)))
    have HKA4 := hid (HK4.out.trans (BKeeps.of_bw ((Bw.refl w4).alloc (.cells #[.int .u64 al, .int .u64 ea] 23)) (Nat.le_trans hB HK4.out.2.1)))
    have HSA4 := hid (HS4.out.alloc (.cells #[.int .u64 al, .int .u64 ea] 23))
    rw [hgb4] at HG4
    generalize w4.alloc (.cells #[.int .u64 al, .int .u64 ea] 23) = v4 at *
    refine (longsW [al, ea] (by simp only [List.mem_cons, List.not_mem_nil, or_false, forall_eq_or_imp, forall_eq]; omega) (by simp) gb4 B b _ (by rw [ByteArray.size_append, ByteArray.size_append, ByteArray.size_append, numsT_size, numsT_size, numsT_size]; simp only [List.length_cons, List.length_nil]; omega) v4 (Nat.le_trans hB HKA4.out.2.1) HA4.out HG4.out).mono ?_
    rintro e w5 ⟨rfl, h1, h2⟩
    have HW5 := hid h1
    have HK5 := hid (HKA4.out.trans h2)
    have HS5 := hid (h2.has HSA4.out (WOk.ne HA4.out HSA4.out (by decide)) (by decide))
    clear h1 h2 hgb4
    clear d8 d9
    go_wp2
    go_returns
    exact ⟨rfl, by unfold shT; rw [← app_as, ← app_as, ← app_as]; exact HW5.out, HK5.out⟩
end Go.Proofs.Ytciaebhkemdilaa

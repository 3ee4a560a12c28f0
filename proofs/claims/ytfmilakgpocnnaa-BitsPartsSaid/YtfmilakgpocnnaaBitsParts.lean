/- BitsParts returns true for every text and three ints, and changes nothing that was there; no condition. -/
import Derived.Test.YtfmilakgpocnnaaBitL
import Derived.Test.YtfmilakgpocnnaaLawKit
import Derived.ProofKit
import Derived.OpenShut
import Derived.ShutString
import Derived.ChangeOld
namespace Go.Proofs.Ytfmilakgpocnnaa.bitsParts
open Go.RowKit Go.ChangeShapes Go.WideShapes Go.ChangeAt
set_option linter.unusedVariables false

set_option maxRecDepth 100000 in
set_option maxHeartbeats 2000000 in
theorem walk_bad (s : ByteArray) (skip a b : Int) (h : a < 0 ∨ b < 0 ∨ 16 < a ∨ 16 < b ∨ skip < 0 ∨ 32 < skip) (w : World) :
    Calls Try.prog 6 #[.agg #[.string s, .int .i64 skip, .int .i64 a, .int .i64 b]] w fun e w' => e = .returned (.bool true) ∧ Bw w w' := by
  by_cases h1 : a < 0
  · clear h
    go_enter Try.func6, Try.ntmps6
    go_wp2_with fail
    go_quiet (fail)
    have hb0 : Bw w ((w.alloc (.cells #[.string s, .int .i64 skip, .int .i64 a, .int .i64 b] 53)).drewN nq) := ((Bw.refl w).alloc _).drewN _
    go_wp2_with fail
    refine (live_any _).mono ?_
    rintro e w9 ⟨rfl, h9⟩
    go_wp2
    go_returns
    exact ⟨rfl, hb0.trans h9⟩
  by_cases h2 : b < 0
  · clear h
    go_enter Try.func6, Try.ntmps6
    go_wp2_with fail
    go_quiet (fail)
    have hb0 : Bw w ((w.alloc (.cells #[.string s, .int .i64 skip, .int .i64 a, .int .i64 b] 53)).drewN nq) := ((Bw.refl w).alloc _).drewN _
    go_wp2_with fail
    refine (live_any _).mono ?_
    rintro e w9 ⟨rfl, h9⟩
    go_wp2
    go_returns
    exact ⟨rfl, hb0.trans h9⟩
  by_cases h3 : 16 < a
  · clear h
    go_enter Try.func6, Try.ntmps6
    go_wp2_with fail
    go_quiet (fail)
    have hb0 : Bw w ((w.alloc (.cells #[.string s, .int .i64 skip, .int .i64 a, .int .i64 b] 53)).drewN nq) := ((Bw.refl w).alloc _).drewN _
    go_wp2_with fail
    refine (live_any _).mono ?_
    rintro e w9 ⟨rfl, h9⟩
    go_wp2
    go_returns
    exact ⟨rfl, hb0.trans h9⟩
  by_cases h4 : 16 < b
  · clear h
    go_enter Try.func6, Try.ntmps6
    go_wp2_with fail
    go_quiet (fail)
    have hb0 : Bw w ((w.alloc (.cells #[.string s, .int .i64 skip, .int .i64 a, .int .i64 b] 53)).drewN nq) := ((Bw.refl w).alloc _).drewN _
    go_wp2_with fail
    refine (live_any _).mono ?_
    rintro e w9 ⟨rfl, h9⟩
    go_wp2
    go_returns
    exact ⟨rfl, hb0.trans h9⟩
  by_cases h5 : skip < 0
  · clear h
    go_enter Try.func6, Try.ntmps6
    go_wp2_with fail
    go_quiet (fail)
    have hb0 : Bw w ((w.alloc (.cells #[.string s, .int .i64 skip, .int .i64 a, .int .i64 b] 53)).drewN nq) := ((Bw.refl w).alloc _).drewN _
    go_wp2_with fail
    refine (live_any _).mono ?_
    rintro e w9 ⟨rfl, h9⟩
    go_wp2
    go_returns
    exact ⟨rfl, hb0.trans h9⟩
  have h6 : 32 < skip := by omega
  clear h
  go_enter Try.func6, Try.ntmps6
  go_wp2_with fail
  go_quiet (fail)
  have hb0 : Bw w ((w.alloc (.cells #[.string s, .int .i64 skip, .int .i64 a, .int .i64 b] 53)).drewN nq) := ((Bw.refl w).alloc _).drewN _
  go_wp2_with fail
  refine (live_any _).mono ?_
  rintro e w9 ⟨rfl, h9⟩
  go_wp2
  go_returns
  exact ⟨rfl, hb0.trans h9⟩

/-- Bits at a known place, by names. -/
def BitsAs (s : ByteArray) (k : Nat) (n : Int) (V : Nat) (E : Int) (K : Nat) : Prop := ∀ (g : Nat) (w : World), Rd w g s k → Calls Try.prog 19 #[.pointer (some ⟨g, 0, none⟩), .int .i64 n] w fun e w' => e = .returned (.tuple #[.int .u32 V, .int .i64 E]) ∧ Rd w' g s K ∧ Keeps (· = g) w w'
theorem bitsAs (s : ByteArray) (hs : s.size ≤ 281474976710656) (k : Nat) (hk : k ≤ 8 * s.size) (n : Int) : BitsAs s k n (bitsV s k n) (bitsE s k n) (bitsK s k n) := fun g w h => bits_any g s hs k hk n w h
theorem parts_eq (V x y : Nat) (a : Nat) (ha : a ≤ 16) (hy : y < 65536) (hV : V < 4294967296) (h : V = x + 2 ^ a * y) :
    ((V : Int) == ((x : Int) + (y : Int) * 2 ^ a) % 4294967296) = true := by
  have e : (y : Int) * 2 ^ a = ((2 ^ a * y : Nat) : Int) := by rw [Nat.mul_comm]; simp
  rw [e]
  simp only [beq_iff_eq]
  omega
set_option maxRecDepth 100000 in
set_option maxHeartbeats 2000000 in
theorem walk_in (s : ByteArray) (hs : s.size ≤ 281474976710656) (skip a b : Nat) (ha : a ≤ 16) (hb : b ≤ 16) (hk : skip ≤ 32) (V0 K0 V1 K1 : Nat) (E0 E1 : Int) (h0 : BitsAs s 0 skip V0 E0 K0) (h1 : BitsAs s K0 ((a : Int) + b) V1 E1 K1)
    (hE : Hid (((E0 != 0) = true ∧ (E0 == 0) = false) ∨ ((E0 != 0) = false ∧ (E0 == 0) = true ∧ (E1 != 0) = true ∧ (E1 == 0) = false))) (w : World) :
    Calls Try.prog 6 #[.agg #[.string s, .int .i64 skip, .int .i64 a, .int .i64 b]] w fun e w' => e = .returned (.bool true) ∧ Bw w w' := by
  have H0 := hid h0
  have H1 := hid h1
  clear h0 h1
  rcases hE.out with ⟨t1, t2⟩ | ⟨t1, t2, t3, t4⟩
  all_goals
    clear hE
    go_enter Try.func6, Try.ntmps6
    go_wp2_with fail
    go_quiet (fail)
    have hb0 : Bw w ((w.alloc (.cells #[.string s, .int .i64 skip, .int .i64 a, .int .i64 b] 53)).drewN nq) := ((Bw.refl w).alloc _).drewN _
    generalize (w.alloc (.cells #[.string s, .int .i64 skip, .int .i64 a, .int .i64 b] 53)).drewN nq = W0 at *
    go_wp2_with fail
    refine (newR_any s _).mono ?_
    rintro e w1 ⟨rfl, hr1, hb1, hz1⟩
    go_wp2_with fail
    refine (newR_any s _).mono ?_
    rintro e w2 ⟨rfl, ht2, hb2, hz2⟩
    have HR2 := hid (show Rd w2 W0.heap.size s 0 from hb2.has hr1)
    have HT2 := hid ht2
    clear hr1 ht2
    go_wp2_with fail
    refine (H0.out _ _ HR2.out).mono ?_
    rintro e w3 ⟨rfl, hr3, hk3⟩
    have HR3 := hid hr3
    have HT3 := hid (show Rd w3 w1.heap.size s 0 from hk3.has HT2.out (by omega))
    have HK3 := hid hk3
    clear hr3 hk3
    go_wp2_with fail
    refine (H0.out _ _ HT3.out).mono ?_
    rintro e w4 ⟨rfl, ht4, hk4⟩
    have HT4 := hid ht4
    have HR4 := hid (show Rd w4 W0.heap.size s K0 from hk4.has HR3.out (by omega))
    have HK4 := hid hk4
    clear ht4 hk4
    go_wp2_with fail
    refine (H1.out _ _ HR4.out).mono ?_
    rintro e w5 ⟨rfl, hr5, hk5⟩
    have HK5 := hid hk5
    clear hr5 hk5
    go_wp2_with fail
    refine (live_any _).mono ?_
    rintro e w9 ⟨rfl, h9⟩
    go_wp2
    go_returns
    refine ⟨rfl, ?_⟩
    have s1 := hb1.size
    have s2 := hb2.size
    have s3 := HK3.out.size
    have s4 := HK4.out.size
    have s5 := HK5.out.size
    have b12 : Below W0.heap.size W0 w2 := hb1.trans hb2
    have b3 := HK3.out.below (B := W0.heap.size) (by omega) (fun i h => by omega)
    have b4 := HK4.out.below (B := W0.heap.size) (by omega) (fun i h => by omega)
    have b5 := HK5.out.below (B := W0.heap.size) (by omega) (fun i h => by omega)
    exact hb0.trans (Bw.trans (((b12.trans b3).trans b4).trans b5 : Bw W0 w5) h9)

set_option maxRecDepth 100000 in
set_option maxHeartbeats 2000000 in
theorem walk_good (s : ByteArray) (hs : s.size ≤ 281474976710656) (skip a b : Nat) (ha : a ≤ 16) (hb : b ≤ 16) (hk : skip ≤ 32) (hk8 : skip + (a + b) ≤ 8 * s.size) (w : World) :
    Calls Try.prog 6 #[.agg #[.string s, .int .i64 skip, .int .i64 a, .int .i64 b]] w fun e w' => e = .returned (.bool true) ∧ Bw w w' := by
  have h0 : BitsAs s 0 skip (bv s 0 skip) 0 skip := by
    have := bitsAs s hs 0 (by omega) skip
    rw [(bits_good skip hk s 0 (by omega)).1, (bits_good skip hk s 0 (by omega)).2.1, (bits_good skip hk s 0 (by omega)).2.2, Nat.zero_add] at this
    exact this
  have h1 : BitsAs s skip ((a : Int) + b) (bv s skip (a + b)) 0 (skip + (a + b)) := by
    have := bitsAs s hs skip (by omega) ((a + b : Nat) : Int)
    rw [(bits_good (a + b) (by omega) s skip (by omega)).1, (bits_good (a + b) (by omega) s skip (by omega)).2.1, (bits_good (a + b) (by omega) s skip (by omega)).2.2] at this
    rw [Int.natCast_add] at this
    exact this
  have h2 : BitsAs s skip a (bv s skip a) 0 (skip + a) := by
    have := bitsAs s hs skip (by omega) a
    rw [(bits_good a (by omega) s skip (by omega)).1, (bits_good a (by omega) s skip (by omega)).2.1, (bits_good a (by omega) s skip (by omega)).2.2] at this
    exact this
  have h3 : BitsAs s (skip + a) b (bv s (skip + a) b) 0 (skip + (a + b)) := by
    have := bitsAs s hs (skip + a) (by omega) b
    rw [(bits_good b (by omega) s (skip + a) (by omega)).1, (bits_good b (by omega) s (skip + a) (by omega)).2.1, (bits_good b (by omega) s (skip + a) (by omega)).2.2, Nat.add_assoc] at this
    exact this
  have hlb : bv s (skip + a) b < 65536 := Nat.lt_of_lt_of_le (bv_lt _ _ _) (Nat.le_trans (Nat.pow_le_pow_right (by decide) hb) (by decide))
  have hla : bv s skip a < 65536 := Nat.lt_of_lt_of_le (bv_lt _ _ _) (Nat.le_trans (Nat.pow_le_pow_right (by decide) ha) (by decide))
  have hlv := bv_lt32 s skip (a + b) (by omega)
  have hq := parts_eq (bv s skip (a + b)) (bv s skip a) (bv s (skip + a) b) a ha hlb hlv (bv_add s skip a b)
  have H0 := hid h0
  have H1 := hid h1
  have H2 := hid h2
  have H3 := hid h3
  clear h0 h1 h2 h3
  generalize bv s skip (a + b) = V at *
  generalize bv s skip a = x at *
  generalize bv s (skip + a) b = y at *
  go_enter Try.func6, Try.ntmps6
  go_wp2_with fail
  go_quiet (fail)
  have hb0 : Bw w ((w.alloc (.cells #[.string s, .int .i64 skip, .int .i64 a, .int .i64 b] 53)).drewN nq) := ((Bw.refl w).alloc _).drewN _
  generalize (w.alloc (.cells #[.string s, .int .i64 skip, .int .i64 a, .int .i64 b] 53)).drewN nq = W0 at *
  go_wp2_with fail
  refine (newR_any s _).mono ?_
  rintro e w1 ⟨rfl, hr1, hb1, hz1⟩
  go_wp2_with fail
  refine (newR_any s _).mono ?_
  rintro e w2 ⟨rfl, ht2, hb2, hz2⟩
  have HR2 := hid (show Rd w2 W0.heap.size s 0 from hb2.has hr1)
  have HT2 := hid ht2
  clear hr1 ht2
  go_wp2_with fail
  refine (H0.out _ _ HR2.out).mono ?_
  rintro e w3 ⟨rfl, hr3, hk3⟩
  have HR3 := hid hr3
  have HT3 := hid (show Rd w3 w1.heap.size s 0 from hk3.has HT2.out (by omega))
  have HK3 := hid hk3
  clear hr3 hk3
  go_wp2_with fail
  refine (H0.out _ _ HT3.out).mono ?_
  rintro e w4 ⟨rfl, ht4, hk4⟩
  have HT4 := hid ht4
  have HR4 := hid (show Rd w4 W0.heap.size s skip from hk4.has HR3.out (by omega))
  have HK4 := hid hk4
  clear ht4 hk4
  go_wp2_with fail
  refine (H1.out _ _ HR4.out).mono ?_
  rintro e w5 ⟨rfl, hr5, hk5⟩
  have HR5 := hid hr5
  have HT5 := hid (show Rd w5 w1.heap.size s skip from hk5.has HT4.out (by omega))
  have HK5 := hid hk5
  clear hr5 hk5
  go_wp2_with fail
  refine (H2.out _ _ HT5.out).mono ?_
  rintro e w6 ⟨rfl, ht6, hk6⟩
  have HT6 := hid ht6
  have HR6 := hid (show Rd w6 W0.heap.size s (skip + (a + b)) from hk6.has HR5.out (by omega))
  have HK6 := hid hk6
  clear ht6 hk6
  go_wp2_with fail
  refine (H3.out _ _ HT6.out).mono ?_
  rintro e w7 ⟨rfl, ht7, hk7⟩
  have HT7 := hid ht7
  have HR7 := hid (show Rd w7 W0.heap.size s (skip + (a + b)) from hk7.has HR6.out (by omega))
  have HK7 := hid hk7
  clear ht7 hk7
  go_wp2_with fail
  refine (at_any _ s _ _ HR7.out).mono ?_
  rintro e w9 ⟨rfl, rfl⟩
  go_wp2_with fail
  refine (at_any _ s _ _ HT7.out).mono ?_
  rintro e w9 ⟨rfl, rfl⟩
  go_wp2_with fail
  refine (live_any _).mono ?_
  rintro e w9 ⟨rfl, h9⟩
  go_wp2
  go_returns
  refine ⟨rfl, ?_⟩
  have s1 := hb1.size
  have s2 := hb2.size
  have s3 := HK3.out.size
  have s4 := HK4.out.size
  have s5 := HK5.out.size
  have s6 := HK6.out.size
  have b12 : Below W0.heap.size W0 w2 := hb1.trans hb2
  have b3 := HK3.out.below (B := W0.heap.size) (by omega) (fun i h => by omega)
  have b4 := HK4.out.below (B := W0.heap.size) (by omega) (fun i h => by omega)
  have b5 := HK5.out.below (B := W0.heap.size) (by omega) (fun i h => by omega)
  have b6 := HK6.out.below (B := W0.heap.size) (by omega) (fun i h => by omega)
  have b7 := HK7.out.below (B := W0.heap.size) (by omega) (fun i h => by omega)
  exact hb0.trans (Bw.trans (((((b12.trans b3).trans b4).trans b5).trans b6).trans b7 : Bw W0 w7) h9)
theorem walk (s : ByteArray) (hs : s.size ≤ 281474976710656) (skip a b : Int) (w : World) :
    Calls Try.prog 6 #[.agg #[.string s, .int .i64 skip, .int .i64 a, .int .i64 b]] w fun e w' => e = .returned (.bool true) ∧ Bw w w' := by
  by_cases h : a < 0 ∨ b < 0 ∨ 16 < a ∨ 16 < b ∨ skip < 0 ∨ 32 < skip
  · exact walk_bad s skip a b h w
  · obtain ⟨a, rfl⟩ := Int.eq_ofNat_of_zero_le (show 0 ≤ a by omega)
    obtain ⟨b, rfl⟩ := Int.eq_ofNat_of_zero_le (show 0 ≤ b by omega)
    obtain ⟨skip, rfl⟩ := Int.eq_ofNat_of_zero_le (show 0 ≤ skip by omega)
    by_cases h1 : skip + (a + b) ≤ 8 * s.size
    · exact walk_good s hs skip a b (by omega) (by omega) (by omega) h1 w
    · have hcs : cntB (skip : Int) = true := decide_eq_true ⟨by omega, by omega⟩
      have hca : cntB ((a : Int) + b) = true := decide_eq_true ⟨by omega, by omega⟩
      refine walk_in s hs skip a b (by omega) (by omega) (by omega) _ _ _ _ _ _ (bitsAs s hs 0 (by omega) skip) (bitsAs s hs _ (bitsK_le s 0 skip (by omega)) _) ?_ w
      by_cases h2 : skip ≤ 8 * s.size
      · right
        have e1 : bitsE s 0 skip = 0 := (bits_good skip (by omega) s 0 (by omega)).2.1
        have e2 : bitsK s 0 skip = skip := by rw [(bits_good skip (by omega) s 0 (by omega)).2.2]; omega
        have e3 : bitsE s skip ((a : Int) + b) = 2 := (bits_short hca s skip (by omega)).2.1
        rw [e2, e1, e3]
        decide
      · left
        have e1 : bitsE s 0 skip = 2 := (bits_short hcs s 0 (by omega)).2.1
        rw [e1]
        decide

/-! The frame: from the walk to the statement. -/
theorem own : ownKnob Try.prog.godebug = none := by kernel_rfl
theorem laidOut : laidOutB Try.prog = true := by kernel_rfl
set_option maxRecDepth 100000 in
theorem lifted (os : Os) (started : os.Started) (H : Type) (enc : TypeId × Value → H) :
    ReturnsInHanded {} Try.checked os 6 .any (Rows.bitsPartsSpec.pre6 enc Try.prog Try.f6 Rows.bitsPartsRow.domain false) (Rows.bitsPartsSpec.post enc Try.prog Try.f6 false true false false) := by
  refine returnsInHanded_of_change_sized (C := Try.checked) own started (by kernel_rfl) Try.func6
    (ChangeSpec.witness6 (enc := enc) (C := Try.checked) false ⟨#[], #[.agg #[.string ⟨#[]⟩, .int .i64 0, .int .i64 0, .int .i64 0]], []⟩ 8 (by kernel_rfl) (by kernel_rfl) (by kernel_rfl) (by kernel_rfl)) ?_
  intro W base args ds gs before hval0 hW hcnd hsz0 _
  have hval : ∀ (j : Nat) t v, Try.f6.params[j]? = some t → args[j]? = some v → Value.okWide Try.prog W .any base t v := hval0
  have hW' := hW
  obtain ⟨p, q, hA0, hV, rfl, hfz, hnd⟩ := hW
  have hA : DataW.TrodAll enc Try.prog W 0 (fun _ => true) true Try.f6.params.toList args.toList ds p := hA0
  have hsz : (DataW.weightsEach Try.prog (Try.f6.params.toList ++ Rows.bitsPartsSpec.plain.varTypes Try.prog) (ds ++ gs)).all (· ≤ reachBytes) = true := hsz0
  rw [Try.params6] at hA hval hsz
  obtain ⟨v0, d0, rfl, rfl, h0⟩ := trodAll_one hA
  obtain ⟨rfl, rfl⟩ := trodVars_none hV
  have k0 := h0
  have lt0 : ∀ x ∈ p, x.block < W.heap.size := by obtain ⟨m, hm⟩ := k0; exact DataW.trod_lt m _ _ _ hm
  obtain ⟨cs, ds, rfl, hlen, rfl, hdl, hf⟩ := open_struct Try.underlying53 (by kernel_rfl) (by kernel_rfl) (hval 0 53 v0 rfl rfl) h0
  obtain ⟨x0, c0, e0⟩ := hf.string 0 rfl Try.underlying9
  have z0 := string_reach hsz (j := 0) (i := 0) rfl rfl Try.underlying53 rfl e0
  obtain ⟨x1, c1, e1, w1⟩ := hf.int 1 rfl Try.underlying3
  obtain ⟨x2, c2, e2, w2⟩ := hf.int 2 rfl Try.underlying3
  obtain ⟨x3, c3, e3, w3⟩ := hf.int 3 rfl Try.underlying3
  obtain rfl := list4 hlen c0 c1 c2 c3
  clear hA0 hval0
  try simp only [List.append_nil] at hW'
  refine (walk x0 (by omega) x1 x2 x3 W).mono fun e W' ⟨he, bel⟩ => ?_
  subst he
  exact ⟨_, rfl, _, _, _, [], _, [], hW', trodAll_mk1 (shut_bool Try.underlying4 _), trodAll_mk1 (Below.trod laidOut (by kernel_rfl) (of_decide_eq_true (by kernel_rfl)) k0 bel lt0), rfl, Below.frame bel _, fun h => by cases h⟩

theorem proved : Rows.BitsPartsSaid :=
  OpenClaim.holds_of_wide 6 Try.f6 rfl rfl rfl rfl rfl rfl rfl ⟨rfl, rfl, rfl, rfl, rfl⟩ rfl rfl rfl rfl rfl (by kernel_rfl) Try.func6 (by kernel_rfl)
    (of_decide_eq_true (by kernel_rfl)) (by unfold Func.isWrapper; first | (rw [if_pos (by decide +kernel)]; kernel_rfl) | (rw [if_neg (by decide +kernel)]; exact ⟨rfl, rfl⟩))
    (fun os started H enc _ => lifted os started H enc)
end Go.Proofs.Ytfmilakgpocnnaa.bitsParts

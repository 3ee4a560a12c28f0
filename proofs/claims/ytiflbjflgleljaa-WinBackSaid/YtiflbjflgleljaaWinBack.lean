/- WinBack returns true for every uint64, int, bool and text, and changes nothing that was there; no condition. -/
import Derived.Test.YtiflbjflgleljaaWinK
import Derived.Test.YtiflbjflgleljaaLawKit
import Derived.ProofKit
import Derived.OpenShut
import Derived.ShutString
import Derived.ChangeOld
namespace Go.Proofs.Ytiflbjflgleljaa.winBack
open Go.RowKit Go.ChangeShapes Go.WideShapes Go.ChangeAt
set_option linter.unusedVariables false

theorem str_size (d : Nat) (f : Nat → Int) : (⟨(strOf d f).toArray⟩ : ByteArray).size = d := by
  show (strOf d f).toArray.size = d
  simp [strOf_len]
theorem str_bt (d : Nat) (f : Nat → Int) (j : Nat) (hj : j < d) (h0 : 0 ≤ f j) (h1 : f j < 256) : (bt ⟨(strOf d f).toArray⟩ j : Int) = f j := by
  have hl := str_size d f
  rw [bt_eq _ j (by omega)]
  show (((strOf d f).toArray[j]'(by simp [strOf_len, hj])).toNat : Int) = f j
  simp [strOf]
  omega
theorem bytesS_size (m d : Nat) (big : Bool) : (bytesS m d big).size = d := str_size d _
theorem bytesS_bt (m d : Nat) (big : Bool) (j : Nat) (hj : j < d) : bt (bytesS m d big) j = m / 2 ^ (8 * (if big then d - 1 - j else j)) % 256 := by
  have h := str_bt d (byteAt m d big) j hj (byteAt_bd m d big j).1 (byteAt_bd m d big j).2
  have e : (bt (bytesS m d big) j : Int) = byteAt m d big j := h
  unfold byteAt at e
  have e2 : (m : Int) / 2 ^ (8 * (if big then d - 1 - j else j)) % 256 = ((m / 2 ^ (8 * (if big then d - 1 - j else j)) % 256 : Nat) : Int) := by
    rw [shr_cast]
    rfl
  rw [e2] at e
  exact Int.ofNat.inj e
theorem horn_digits (m d : Nat) (hm : m < 256 ^ d) : ∀ k, k ≤ d → horn (fun i => m / 2 ^ (8 * (d - 1 - i)) % 256) k = m / 256 ^ (d - k) := by
  intro k
  induction k with
  | zero => intro _; rw [Nat.sub_zero, Nat.div_eq_of_lt hm]; rfl
  | succ k ih =>
    intro hk
    rw [horn, ih (by omega)]
    have e1 : (2 : Nat) ^ (8 * (d - 1 - k)) = 256 ^ (d - (k + 1)) := by
      rw [show (256 : Nat) = 2 ^ 8 from rfl, ← Nat.pow_mul, show 8 * (d - 1 - k) = 8 * (d - (k + 1)) by omega]
    have e2 : 256 ^ (d - k) = 256 ^ (d - (k + 1)) * 256 := by rw [← Nat.pow_succ, show d - k = d - (k + 1) + 1 by omega]
    rw [e1, e2, ← Nat.div_div_eq_div_mul]
    omega
theorem bt_append_left (a b : ByteArray) (j : Nat) (hj : j < a.size) : bt (a ++ b) j = bt a j := by
  rw [bt_eq _ j (by rw [ByteArray.size_append]; omega), bt_eq a j hj]
  rw [ByteArray.getElem_append_left hj]
theorem bt_append_right (a b : ByteArray) (j : Nat) (hj : j < b.size) : bt (a ++ b) (a.size + j) = bt b j := by
  rw [bt_eq _ _ (by rw [ByteArray.size_append]; omega), bt_eq b j hj]
  rw [ByteArray.getElem_append_right (by omega)]
  simp
theorem num_back (m d : Nat) (big : Bool) (a b : ByteArray) (hm : m / 2 ^ (8 * d) = 0) : numAt (a ++ bytesS m d big ++ b) a.size d big = m := by
  have hm2 : m < 256 ^ d := by
    have e : (256 : Nat) ^ d = 2 ^ (8 * d) := by rw [show (256 : Nat) = 2 ^ 8 from rfl, ← Nat.pow_mul]
    rw [e]
    exact (Nat.div_eq_zero_iff.1 hm).resolve_left (by have := Nat.two_pow_pos (8 * d); omega)
  have h := horn_digits m d hm2 d (by omega)
  rw [Nat.sub_self, Nat.pow_zero, Nat.div_one] at h
  rw [numAt, ← h]
  have key : ∀ j, j < d → bt (a ++ bytesS m d big ++ b) (a.size + j) = m / 2 ^ (8 * (if big then d - 1 - j else j)) % 256 := fun j hj => by
    have hz := bytesS_size m d big
    rw [bt_append_left _ _ _ (by rw [ByteArray.size_append]; omega), bt_append_right _ _ _ (by omega), bytesS_bt _ _ _ _ hj]
  refine horn_congr d fun i hi => ?_
  rw [h]
  cases big
  · rw [dig, if_neg (by decide), show a.size + d - 1 - i = a.size + (d - 1 - i) by omega, key (d - 1 - i) (by omega), if_neg (by decide)]
  · rw [dig, if_pos rfl, key i hi, if_pos rfl]

set_option maxRecDepth 100000 in
set_option maxHeartbeats 1000000 in
theorem walk_bad (n : Nat) (d : Int) (big : Bool) (ah : ByteArray) (hE : bytesE n d ≠ 0) (w : World) :
    Calls Try.prog 7 #[.agg #[.int .u64 n, .int .i64 d, .bool big, .string ah]] w fun e w' => e = .returned (.bool true) ∧ Bw w w' := by
  have hC : ∀ w, Calls Try.prog 20 #[.int .u64 n, .int .i64 d, .bool big] w fun e w' => e = .returned (.tuple #[.string ⟨#[]⟩, .int .i64 (bytesE n d)]) ∧ Bw w w' := fun w => by
    have h := bytes_any n d big w
    rwa [bytesV_bad hE] at h
  have HC := hid hC
  clear hC
  have hE1 : (bytesE n d != 0) = true := by simpa using hE
  generalize bytesE n d = E at *
  clear hE
  go_enter Try.func7, Try.ntmps7
  go_wp2_with fail
  go_quiet (fail)
  go_wp2_with fail
  refine (HC.out _).mono ?_
  rintro e wq1 ⟨rfl, hq1⟩
  go_wp2_with fail
  refine (live_any _).mono ?_
  rintro e wq2 ⟨rfl, hq2⟩
  go_wp2
  go_returns
  exact ⟨rfl, Bw.trans (below_drewN (Below.alloc (Below.refl _ _) (Nat.le_refl _) _) _) (Bw.trans hq1 (hq2))⟩

set_option maxRecDepth 100000 in
set_option maxHeartbeats 1000000 in
theorem walk_ok (n d : Nat) (hd : 1 ≤ d) (hd8 : d ≤ 8) (hw : widB (d : Int) = true) (big : Bool) (ah : ByteArray) (hz : ah.size ≤ 140737488351232) (hm : n / 2 ^ (8 * d) = 0) (w : World) :
    Calls Try.prog 7 #[.agg #[.int .u64 n, .int .i64 d, .bool big, .string ah]] w fun e w' => e = .returned (.bool true) ∧ Bw w w' := by
  have hE := bytesE_ok hw hm
  obtain ⟨S, hS⟩ : ∃ S, bytesS n d big = S := ⟨_, rfl⟩
  obtain ⟨T, hT⟩ : ∃ T, bytesS n d (!big) = T := ⟨_, rfl⟩
  have hSz : S.size = d := by rw [← hS]; exact bytesS_size _ _ _
  have hTz : T.size = d := by rw [← hT]; exact bytesS_size _ _ _
  have hC : ∀ w, Calls Try.prog 20 #[.int .u64 n, .int .i64 d, .bool big] w fun e w' => e = .returned (.tuple #[.string S, .int .i64 0]) ∧ Bw w w' := fun w => by
    have h := bytes_any n d big w
    rwa [bytesV_ok hE, hE, hS] at h
  have hD : ∀ w, Calls Try.prog 20 #[.int .u64 n, .int .i64 d, .bool (!big)] w fun e w' => e = .returned (.tuple #[.string T, .int .i64 0]) ∧ Bw w w' := fun w => by
    have h := bytes_any n d (!big) w
    rwa [bytesV_ok hE, hE, hT] at h
  have hU : ∀ w, Calls Try.prog 28 #[.agg #[.int .i64 0, .string (ah ++ S ++ ah)], .int .i64 ah.size, .int .i64 d, .bool big] w fun e w' => e = .returned (.tuple #[.int .u64 n, .int .i64 0]) ∧ Bw w w' := fun w => by
    have hX : (ah ++ S ++ ah).size = ah.size + d + ah.size := by rw [ByteArray.size_append, ByteArray.size_append, hSz]
    have hE2 : uintE (ah ++ S ++ ah).size ah.size d = 0 := by rw [uintE_sub hw]; exact subE_ok (by omega) (by omega)
    have h := uint_any 0 (by decide) (by decide) (ah ++ S ++ ah) (by unfold lim; omega) ah.size d big w
    rw [uintV_ok hE2, hE2, Int.toNat_natCast, Int.toNat_natCast] at h
    rw [← hS, num_back n d big ah ah hm] at h
    rwa [hS] at h
  have hB : ∀ k, k < d → bt S k = bt T (d - 1 - k) := fun k hk => by
    rw [← hS, ← hT, bytesS_bt _ _ _ _ hk, bytesS_bt _ _ _ _ (by omega)]
    cases big
    · simp [show d - 1 - (d - 1 - k) = k by omega]
    · simp
  have s1 : S.size ≤ d := by omega
  have s2 : d ≤ S.size := by omega
  have t1 : T.size ≤ d := by omega
  have t2 : d ≤ T.size := by omega
  have s3 : ((S.size : Int) != (d : Int)) = false := by simp; omega
  have t3 : ((T.size : Int) != (d : Int)) = false := by simp; omega
  have HB := hid hB
  have HC := hid hC
  have HD := hid hD
  have HU := hid hU
  clear hB hC hD hU hSz hTz hS hT hE hm
  go_enter Try.func7, Try.ntmps7
  go_wp2_with fail
  go_quiet (fail)
  go_wp2_with fail
  refine (HC.out _).mono ?_
  rintro e wq1 ⟨rfl, hq1⟩
  go_wp2_with fail
  refine (of_any (ah ++ S ++ ah) _).mono ?_
  rintro e wq2 ⟨rfl, hq2⟩
  go_wp2_with fail
  refine (HU.out _).mono ?_
  rintro e wq3 ⟨rfl, hq3⟩
  go_wp2_with fail
  refine (HD.out _).mono ?_
  rintro e wq4 ⟨rfl, hq4⟩
  go_wp2_with fail
  have hall : Bw w wq4 := Bw.trans (below_drewN (Below.alloc (Below.refl _ _) (Nat.le_refl _) _) _) (Bw.trans hq1 (Bw.trans hq2 (Bw.trans hq3 hq4)))
  clear hq1 hq2 hq3 hq4
  go_loopw [13] (fun i wr => ∃ k : Nat, k ≤ d ∧ i = .int .i64 k ∧ Bw w wr) (fun i _ => d - (intOf i).toNat)
  case atStart => exact ⟨0, Nat.zero_le _, rfl, hall⟩
  case round =>
    obtain ⟨k, hk, rfl, hbel⟩ := hrel
    by_cases hlt : k < d
    · have e1 : (S[k]'(by omega)).toNat = (T[d - 1 - k]'(by omega)).toNat := by
        have h := HB.out k hlt
        rwa [bt_eq S k (by omega), bt_eq T _ (by omega)] at h
      have E1 := hid e1
      have b1 : (k : Int) < (S.size : Int) := by omega
      have b2 : (d : Int) - 1 - k < (T.size : Int) := by omega
      have b3 : (0 : Int) ≤ (d : Int) - 1 - k := by omega
      have b4 : (k : Int) ≤ (d : Int) - 1 := by omega
      clear e1 s3 t3
      go_wp2_with fail
      go_quiet (fail)
      have e1 := E1.out
      go_wp2
      all_goals go_roundw
      case rel => exact ⟨k + 1, by omega, by go_num, below_drewN hbel _⟩
      case measure => simp [intOf]; omega
    · go_wp2_with fail
      refine (live_any _).mono ?_
      rintro e w9 ⟨rfl, h9⟩
      go_wp2
      go_returns
      exact ⟨rfl, hbel.trans h9⟩
theorem walk (n d : Int) (hn : (Lit.int .u64 n).wf = true) (big : Bool) (ah : ByteArray) (hz : ah.size ≤ 140737488351232) (w : World) :
    Calls Try.prog 7 #[.agg #[.int .u64 n, .int .i64 d, .bool big, .string ah]] w fun e w' => e = .returned (.bool true) ∧ Bw w w' := by
  have hb := bounds_u64 hn
  obtain ⟨k, rfl⟩ := Int.eq_ofNat_of_zero_le hb.1
  by_cases hE : bytesE k d = 0
  · by_cases hw : widB d = true
    · obtain ⟨j, rfl, hj⟩ := wid_cases hw
      refine walk_ok k j (by omega) (by omega) hw big ah hz ?_ w
      by_cases hm : k / 2 ^ (8 * j) = 0
      · exact hm
      · rw [bytesE_field hw hm] at hE; cases hE
    · rw [bytesE_bad (by simpa using hw)] at hE; cases hE
  · exact walk_bad k d big ah hE w

/-! The frame: from the walk to the statement. -/
theorem own : ownKnob Try.prog.godebug = none := by kernel_rfl
theorem laidOut : laidOutB Try.prog = true := by kernel_rfl
set_option maxRecDepth 100000 in
theorem lifted (os : Os) (started : os.Started) (H : Type) (enc : TypeId × Value → H) :
    ReturnsInHanded {} Try.checked os 7 .any (Rows.winBackSpec.pre6 enc Try.prog Try.f7 Rows.winBackRow.domain false) (Rows.winBackSpec.post enc Try.prog Try.f7 false true false false) := by
  refine returnsInHanded_of_change_sized (C := Try.checked) own started (by kernel_rfl) Try.func7
    (ChangeSpec.witness6 (enc := enc) (C := Try.checked) false ⟨#[], #[.agg #[.int .u64 0, .int .i64 0, .bool false, .string ⟨#[]⟩]], []⟩ 8 (by kernel_rfl) (by kernel_rfl) (by kernel_rfl) (by kernel_rfl)) ?_
  intro W base args ds gs before hval0 hW hcnd hsz0 _
  have hval : ∀ (j : Nat) t v, Try.f7.params[j]? = some t → args[j]? = some v → Value.okWide Try.prog W .any base t v := hval0
  have hW' := hW
  obtain ⟨p, q, hA0, hV, rfl, hfz, hnd⟩ := hW
  have hA : DataW.TrodAll enc Try.prog W 0 (fun _ => true) true Try.f7.params.toList args.toList ds p := hA0
  have hsz : (DataW.weightsEach Try.prog (Try.f7.params.toList ++ Rows.winBackSpec.plain.varTypes Try.prog) (ds ++ gs)).all (· ≤ reachBytes) = true := hsz0
  rw [Try.params7] at hA hval hsz
  obtain ⟨v0, d0, rfl, rfl, h0⟩ := trodAll_one hA
  obtain ⟨rfl, rfl⟩ := trodVars_none hV
  have k0 := h0
  have lt0 : ∀ x ∈ p, x.block < W.heap.size := by obtain ⟨m, hm⟩ := k0; exact DataW.trod_lt m _ _ _ hm
  obtain ⟨cs, ds, rfl, hlen, rfl, hdl, hf⟩ := open_struct Try.underlying49 (by kernel_rfl) (by kernel_rfl) (hval 0 49 v0 rfl rfl) h0
  obtain ⟨x0, c0, e0, w0⟩ := hf.int 0 rfl Try.underlying26
  obtain ⟨x1, c1, e1, w1⟩ := hf.int 1 rfl Try.underlying3
  obtain ⟨x2, c2, e2⟩ := hf.bool 2 rfl Try.underlying4
  obtain ⟨x3, c3, e3⟩ := hf.string 3 rfl Try.underlying9
  have z3 := string_reach hsz (j := 0) (i := 3) rfl rfl Try.underlying49 rfl e3
  obtain rfl := list4 hlen c0 c1 c2 c3
  clear hA0 hval0
  try simp only [List.append_nil] at hW'
  refine (walk x0 x1 w0 x2 x3 z3 W).mono fun e W' ⟨he, bel⟩ => ?_
  subst he
  exact ⟨_, rfl, _, _, _, [], _, [], hW', trodAll_mk1 (shut_bool Try.underlying4 _), trodAll_mk1 (Below.trod laidOut (by kernel_rfl) (of_decide_eq_true (by kernel_rfl)) k0 bel lt0), rfl, Below.frame bel _, fun h => by cases h⟩

theorem proved : Rows.WinBackSaid :=
  OpenClaim.holds_of_wide 7 Try.f7 rfl rfl rfl rfl rfl rfl rfl ⟨rfl, rfl, rfl, rfl, rfl⟩ rfl rfl rfl rfl rfl (by kernel_rfl) Try.func7 (by kernel_rfl)
    (of_decide_eq_true (by kernel_rfl)) (by unfold Func.isWrapper; first | (rw [if_pos (by decide +kernel)]; kernel_rfl) | (rw [if_neg (by decide +kernel)]; exact ⟨rfl, rfl⟩))
    (fun os started H enc _ => lifted os started H enc)
end Go.Proofs.Ytiflbjflgleljaa.winBack

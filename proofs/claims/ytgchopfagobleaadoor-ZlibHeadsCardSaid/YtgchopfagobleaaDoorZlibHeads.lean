/- ZlibHeads returns true for every two bytes, and changes nothing that was there; no condition but that the listed tables hold what the program's text lays. -/
import Derived.Test.YtgchopfagobleaaDoorZlbV
import Derived.Test.YtgchopfagobleaaDoorInfZ
import Derived.ShutString
import Derived.ChangeOld
import Derived.SizedLaws
import Derived.Laws.BitsAllLaws
namespace Go.Proofs.YtgchopfagobleaaDoor.zlibHeads
open Go.ChangeShapes Go.WideShapes Go.ChangeAt Go.WideMaps Go.WideElems Go.RowKit
open Go.ChangeMaps (open_string shut_string)
set_option linter.unusedVariables false
theorem and15b (a : Nat) (h : a < 256) : bits .and .u8 ((a : Nat) : Int) 15 = ((a % 16 : Nat) : Int) := by
  have h1 := u8_and_nat a 15 (by omega) (by omega)
  rw [show (15 : Nat) = 2 ^ 4 - 1 from rfl, Nat.and_two_pow_sub_one_eq_mod] at h1
  exact h1
theorem and32b (n : Nat) (h : n < 256) : bits .and .u8 ((n : Nat) : Int) 32 = ((n / 32 % 2 * 32 : Nat) : Int) := by
  have h1 := u8_and_nat n 32 (by omega) (by omega)
  rw [nat_and32] at h1
  exact h1
theorem two_conv (a b : Nat) (ha : a < 256) (hb : b < 256) (w : World) :
    (convert 27 9 (.slice (some ⟨w.heap.size, 0, none⟩) 2 2)).run Tryd.prog (w.alloc (.cells #[.int .u8 (a : Nat), .int .u8 (b : Nat)] 5)) =
      .ok (.string ⟨#[UInt8.ofNat a, UInt8.ofNat b]⟩) (w.alloc (.cells #[.int .u8 (a : Nat), .int .u8 (b : Nat)] 5)) := by
  have e : fill 2 (fun j => if j = 0 then ((a : Nat) : Int) else ((b : Nat) : Int)) = #[.int .u8 (a : Nat), .int .u8 (b : Nat)] := by
    simp [fill, List.range_succ]
  have hN := Has.new w 5 #[.int .u8 (a : Nat), .int .u8 (b : Nat)]
  rw [← e] at hN ⊢
  have hcv := conv_fill (P := Tryd.prog) _ 27 9 5 Tryd.underlying27 Tryd.underlying5 Tryd.underlying9 (c := 2) hN (fun j _ => by constructor <;> (repeat' split) <;> omega)
  rw [hcv]
  have e2 : strOf 2 (fun j => if j = 0 then ((a : Nat) : Int) else ((b : Nat) : Int)) = [UInt8.ofNat a, UInt8.ofNat b] := by
    simp [strOf, List.range_succ]
  rw [e2]
set_option maxRecDepth 100000 in
set_option maxHeartbeats 8000000 in
theorem walkN (a b : Nat) (ha : a < 256) (hb : b < 256) (w : World) (ht : Tabs w.heap.size w) :
    Calls Tryd.prog 5 #[.int .u8 (a : Nat), .int .u8 (b : Nat)] w fun e w' => e = .returned (.bool true) ∧ Bw w w' := by
  have HT := hid ht
  have HC := two_conv a b ha hb w
  have HA := hid (and15b a ha)
  have HB := hid (and32b b hb)
  have HP := hid (fun (c : ByteArray) (n er : Int) (h : UnzR (headS a b) 0 c n er) => heads_plain a b ha hb h)
  have HW := hid (show Bw w (w.alloc (.cells #[.int .u8 (a : Nat), .int .u8 (b : Nat)] 5)) from (Bw.refl w).alloc _)
  have a0 : (0 : Int) ≤ (a : Nat) := by omega
  have a1 : ((a : Nat) : Int) < 256 := by omega
  have b0 : (0 : Int) ≤ (b : Nat) := by omega
  have b1 : ((b : Nat) : Int) < 256 := by omega
  clear ht ha hb
  go_enter Tryd.func5, Tryd.ntmps5
  go_wp2_with fail
  clear HC
  refine (unzip_any (headS a b) (by rw [headS_size]; omega) 0 _ (HT.out.bw HW.out)).mono ?_
  rintro e w2 ⟨c, n, er, rfl, hr, hb2⟩
  have HB2 := hid (HW.out.trans hb2)
  have HT2 := hid (HT.out.bw HB2.out)
  clear hb2
  rcases HP.out c n er hr with ⟨hq, rfl⟩ | ⟨hq, rfl⟩
  · have HQ := hid hq
    clear hr hq
    go_wp2_with fail
    all_goals first
      | (refine (zlive_any w2 HT2.out).mono ?_
         rintro e wl ⟨rfl, hbl⟩
         have HBL := hid hbl
         clear hbl
         go_wp2
         go_returns
         refine ⟨?_, HB2.out.trans HBL.out⟩
         first | rfl | exact ret_bool (by simp; assumption))
      | (exfalso
         have q := HQ.out
         have p1 := HA.out
         have p2 := HB.out
         simp only [p1, p2] at *
         omega)
  · have HQ := hid hq
    clear hr hq
    go_wp2_with fail
    all_goals first
      | (refine (zlive_any w2 HT2.out).mono ?_
         rintro e wl ⟨rfl, hbl⟩
         have HBL := hid hbl
         clear hbl
         go_wp2
         go_returns
         refine ⟨?_, HB2.out.trans HBL.out⟩
         first | rfl | exact ret_bool (by simp; assumption))
      | (exfalso
         have q := HQ.out
         have p1 := HA.out
         have p2 := HB.out
         simp only [p1, p2] at *
         omega)
theorem walk (x : Int) (hx : (Lit.int .u8 x).wf = true) (y : Int) (hy : (Lit.int .u8 y).wf = true) (w : World) (hh : Tabs w.heap.size w) :
    Calls Tryd.prog 5 #[.int .u8 x, .int .u8 y] w fun e w' => e = .returned (.bool true) ∧ Bw w w' := by
  have hb := bounds_u8 hx
  have hc := bounds_u8 hy
  obtain ⟨a, rfl⟩ := Int.eq_ofNat_of_zero_le hb.1
  obtain ⟨b, rfl⟩ := Int.eq_ofNat_of_zero_le hc.1
  exact walkN a b (by omega) (by omega) w hh

/-! The frame: from the walk to the statement. -/
set_option maxRecDepth 100000 in
theorem lifted (os : Os) (started : os.Started) (H : Type) (enc : TypeId × Value → H) :
    ReturnsInHanded {} Tryd.checked os 5 .any (fun w args => (Rows.zlibHeadsSpec.pre enc Tryd.prog Tryd.f5 [] false w args ∧ laidMetH Tryd.prog Rows.inflateReadsRow.laid w) ∧ sizedMet enc Tryd.prog Tryd.f5 (OpenSpec.ofChange Rows.zlibHeadsSpec) false w args)
      (Rows.zlibHeadsSpec.post enc Tryd.prog Tryd.f5 false true false false) := by
  refine returnsInHanded_of_change_and (C := Tryd.checked) (X := fun w _ => laidMetH Tryd.prog Rows.inflateReadsRow.laid w) (fun _ _ _ hh h => h.of_heap hh) own started (by kernel_rfl) Tryd.func5
    (ChangeSpec.witness_shaped (enc := enc) (C := Tryd.checked) (os := os) (X := fun w _ => laidMetH Tryd.prog Rows.inflateReadsRow.laid w) false (World.doorLaid Tryd.prog 400 os) #[.int .u8 0, .int .u8 0] 8 rfl (World.shaped_of_RefB (by kernel_rfl) (by kernel_rfl)) (by kernel_rfl) (by kernel_rfl) (by kernel_rfl) (door_met os _)) ?_
  intro W base args ds gs before hval0 hW _ hsz0 hL _
  have hval : ∀ (j : Nat) t v, Tryd.f5.params[j]? = some t → args[j]? = some v → Value.okWide Tryd.prog W .any base t v := hval0
  have hW' := hW
  obtain ⟨p, q, hA0, hV, rfl, hfz, hnd⟩ := hW
  have hA : DataW.TrodAll enc Tryd.prog W 0 (fun _ => true) true Tryd.f5.params.toList args.toList ds p := hA0
  have hsz : (DataW.weightsEach Tryd.prog (Tryd.f5.params.toList ++ Rows.zlibHeadsSpec.plain.varTypes Tryd.prog) (ds ++ gs)).all (· ≤ reachBytes) = true := hsz0
  rw [Tryd.params5] at hA hval hsz
  obtain ⟨v0, vs0, d0, ds0, p0, q0, hargs, rfl, rfl, h0, r0⟩ := trodAll_cons hA
  obtain ⟨v1, vs1, d1, ds1, p1, q1, rfl, rfl, rfl, h1, r1⟩ := trodAll_cons r0
  obtain ⟨rfl, rfl, rfl⟩ := trodAll_nil r1
  obtain rfl : args = #[v0, v1] := by cases args; simp_all
  obtain ⟨rfl, rfl⟩ := trodVars_none hV
  obtain ⟨a0, rfl, rfl, rfl, w0⟩ := open_int Tryd.underlying5 (hval 0 5 v0 rfl rfl) h0
  obtain ⟨a1, rfl, rfl, rfl, w1⟩ := open_int Tryd.underlying5 (hval 1 5 v1 rfl rfl) h1
  clear hA0 hval0
  try simp only [List.append_nil] at hW'
  refine (walk a0 w0 a1 w1 W (tabs_of hL)).mono fun e W' ⟨he, bel⟩ => ?_
  subst he
  exact ⟨_, rfl, _, _, _, [], _, [], hW', trodAll_mk1 (shut_bool Tryd.underlying4 _), (trodAll_cons_mk (shut_int Tryd.underlying5 w0) (trodAll_cons_mk (shut_int Tryd.underlying5 w1) trodAll_mk0)), rfl, Below.frame bel _, fun h => by cases h⟩

theorem holds : Rows.ZlibHeadsSaid :=
  OpenClaim.holds_of_wide 5 Tryd.f5 rfl rfl rfl rfl rfl rfl rfl ⟨rfl, rfl, rfl, rfl, rfl⟩ rfl rfl rfl rfl rfl (by kernel_rfl) Tryd.func5 (by kernel_rfl)
    (of_decide_eq_true (by kernel_rfl)) (by unfold Func.isWrapper; first | (rw [if_pos (by decide +kernel)]; kernel_rfl) | (rw [if_neg (by decide +kernel)]; exact ⟨rfl, rfl⟩))
    (fun os started H enc _ => lifted os started H enc)

theorem proved : Rows.ZlibHeadsCardSaid :=
  Claim7.holds_tied_plain_at .later [] [.wider, .wider, .data] true _ true
    holds (fun _ h => by cases h) (by kernel_rfl) (fun _ h => by cases h) zlibHeads_row_tie rfl ⟨rfl, rfl⟩ (by kernel_rfl) rfl
    (fun f fn hf hfn => by
      obtain rfl : f = 5 := Option.some.inj ((show Tryd.prog.funcNamed "mortise/mortiselaw10.ZlibHeads" = some 5 by kernel_rfl).symm.trans hf) |>.symm
      obtain rfl : fn = Tryd.f5 := (Option.some.inj (Tryd.func5.symm.trans hfn)).symm
      exact ⟨by kernel_rfl, fun j t ht => by
        rw [Tryd.params5] at ht
        have hm : t ∈ [5, 5] := by simpa using Array.mem_of_getElem? ht
        have hall : ([5, 5].all fun u => !Tryd.prog.wantsStandIn u) = true := by kernel_rfl
        exact (show Tryd.prog.wantsStandIn t = false by simpa using List.all_eq_true.1 hall t hm)⟩)
    (by kernel_rfl)
end Go.Proofs.YtgchopfagobleaaDoor.zlibHeads

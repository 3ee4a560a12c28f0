/- InflateAhead returns true for every two texts, and changes nothing that was there; no condition but that the listed tables hold what the program's text lays. -/
import Derived.Test.YtaihojjocmdgbaaDoorInfT
import Derived.Test.YtaihojjocmdgbaaDoorInfF
import Derived.ShutString
import Derived.ChangeOld
import Derived.SizedLaws
namespace Go.Proofs.YtaihojjocmdgbaaDoor.inflateAhead
open Go.ChangeShapes Go.WideShapes Go.ChangeAt Go.WideMaps Go.WideElems Go.RowKit
open Go.ChangeMaps (open_string shut_string)
set_option linter.unusedVariables false
theorem str_le {s : ByteArray} (h : s.data.toList.length ≤ reachBytes) : s.size ≤ 140737488351232 := by
  have h4 : s.size = s.data.toList.length := by simp
  have h5 : reachBytes = 140737488351232 := by decide
  omega
set_option maxRecDepth 100000 in
set_option maxHeartbeats 8000000 in
theorem big1 (s u : ByteArray) (h : ¬ s.size ≤ 20000) (w : World) (ht : Tabs w.heap.size w) :
    Calls Tryd.prog 8 #[.string s, .string u] w fun e w' => e = .returned (.bool true) ∧ Bw w w' := by
  have t0 : decide (20000 < s.size) = true := decide_eq_true (by omega)
  have t1 : decide ((20000 : Int) < s.size) = true := decide_eq_true (by omega)
  have HT := hid ht
  clear ht
  clear h
  go_enter Tryd.func8, Tryd.ntmps8
  go_wp2_with fail
  refine (live_any w HT.out).mono ?_
  rintro e wl ⟨rfl, hbl⟩
  have HBL := hid hbl
  clear hbl
  go_wp2
  go_returns
  exact ⟨rfl, HBL.out⟩
set_option maxRecDepth 100000 in
set_option maxHeartbeats 8000000 in
theorem big2 (s u : ByteArray) (h : s.size ≤ 20000) (h2 : ¬ u.size ≤ 20000) (w : World) (ht : Tabs w.heap.size w) :
    Calls Tryd.prog 8 #[.string s, .string u] w fun e w' => e = .returned (.bool true) ∧ Bw w w' := by
  have t0 : decide (20000 < s.size) = false := decide_eq_false (by omega)
  have t1 : decide ((20000 : Int) < s.size) = false := decide_eq_false (by omega)
  have t2 : decide (20000 < u.size) = true := decide_eq_true (by omega)
  have t3 : decide ((20000 : Int) < u.size) = true := decide_eq_true (by omega)
  have HT := hid ht
  clear ht
  clear h h2
  go_enter Tryd.func8, Tryd.ntmps8
  go_wp2_with fail
  refine (live_any w HT.out).mono ?_
  rintro e wl ⟨rfl, hbl⟩
  have HBL := hid hbl
  clear hbl
  go_wp2
  go_returns
  exact ⟨rfl, HBL.out⟩
open Go.Conc in
theorem and255 (k : Nat) (h : k ≤ 20000) : bits .and .i64 (k : Int) 255 = ((k % 256 : Nat) : Int) := by
  show IntKind.i64.wrap ((BitVec.ofInt 64 (k : Int) &&& BitVec.ofInt 64 255).toNat : Int) = _
  have e1 : (BitVec.ofInt 64 (k : Int)).toNat = k := by
    rw [BitVec.toNat_ofInt]; omega
  have e2 : (BitVec.ofInt 64 255).toNat = 255 := by decide
  rw [BitVec.toNat_and, e1, e2, show (255 : Nat) = 2 ^ 8 - 1 by rfl, Nat.and_two_pow_sub_one_eq_mod, IntKind.wrap_i64]
  omega
set_option maxRecDepth 100000 in
set_option maxHeartbeats 8000000 in
theorem small (s u : ByteArray) (h : s.size ≤ 20000) (h2 : u.size ≤ 20000) (w : World) (ht : Tabs w.heap.size w) :
    Calls Tryd.prog 8 #[.string s, .string u] w fun e w' => e = .returned (.bool true) ∧ Bw w w' := by
  have t0 : decide (20000 < s.size) = false := decide_eq_false (by omega)
  have t1 : decide ((20000 : Int) < s.size) = false := decide_eq_false (by omega)
  have t2 : decide (20000 < u.size) = false := decide_eq_false (by omega)
  have t3 : decide ((20000 : Int) < u.size) = false := decide_eq_false (by omega)
  have HT := hid ht
  have HI1 := hid (inflate_any s (by omega) 100000 w ht)
  have HU := hid h2
  clear ht
  go_enter Tryd.func8, Tryd.ntmps8
  go_wp2_with fail
  refine HI1.out.mono ?_
  rintro e w1 ⟨a, n, er, rfl, hr1, hb1⟩
  have HR1 := hid hr1
  have HB1 := hid hb1
  have HT1 := hid (HT.out.bw hb1)
  clear hr1 hb1
  by_cases h0 : er = 0
  · subst h0
    have h5 : (hd5 u.size).size = 5 := rfl
    have hsz : (hd5 u.size ++ u ++ s).size = 5 + u.size + s.size := by simp [h5]
    have HS2 := hid (show (hd5 u.size ++ u ++ s).size ≤ 281474976710656 by rw [hsz]; omega)
    obtain ⟨r, hr⟩ : ∃ r, u.size % 256 = r := ⟨_, rfl⟩
    obtain ⟨q, hq⟩ : ∃ q, u.size / 256 = q := ⟨_, rfl⟩
    have a1 := and255 u.size h2
    rw [hr] at a1
    have a2 : ((u.size : Nat) : Int) / 256 = (q : Nat) := by omega
    have a3 : ((u.size : Nat) : Int) % 256 = (r : Nat) := by omega
    have b1 : r ≤ 255 := by omega
    have b2 : q ≤ 255 := by omega
    have HR := hid hr
    have HQ := hid hq
    clear hsz h5 hr hq
    obtain ⟨hn0, hn1⟩ := infR_le HR1.out
    have hcv : (convert 30 9 (.slice (some ⟨w1.heap.size, 0, none⟩) 5 5)).run Tryd.prog (w1.alloc (.cells #[.int .u8 0, .int .u8 (r : Nat), .int .u8 (q : Nat), .int .u8 (255 - (r : Int)), .int .u8 (255 - (q : Int))] 5)) = .ok (.string (hd5 u.size)) (w1.alloc (.cells #[.int .u8 0, .int .u8 (r : Nat), .int .u8 (q : Nat), .int .u8 (255 - (r : Int)), .int .u8 (255 - (q : Int))] 5)) := by
      have hn := Has.new w1 5 #[.int .u8 0, .int .u8 (r : Nat), .int .u8 (q : Nat), .int .u8 (255 - (r : Int)), .int .u8 (255 - (q : Int))]
      refine run_convert_bytes_back (P := Tryd.prog) _ 30 9 5 ⟨w1.heap.size, 0, none⟩ 5 (hd5 u.size).data.toList Tryd.underlying30 Tryd.underlying5 Tryd.underlying9 (fun j hj => ?_)
      have hj5 : j < 5 := hj
      have hr := HR.out
      have hq := HQ.out
      rw [addr_add, hn.cell j]
      match j, hj5 with
      | 0, _ => rfl
      | 1, _ => show some (Value.int .u8 (r : Nat)) = some (Value.int .u8 ((UInt8.ofNat u.size).toNat : Nat)); rw [UInt8.toNat_ofNat', hr]
      | 2, _ => show some (Value.int .u8 (q : Nat)) = some (Value.int .u8 ((UInt8.ofNat (u.size / 256)).toNat : Nat)); rw [UInt8.toNat_ofNat', hq, Nat.mod_eq_of_lt (by omega)]
      | 3, _ => show some (Value.int .u8 (255 - (r : Int))) = some (Value.int .u8 ((UInt8.ofNat (255 - u.size % 256)).toNat : Nat)); rw [UInt8.toNat_ofNat', hr, Nat.mod_eq_of_lt (by omega), show ((255 - r : Nat) : Int) = 255 - (r : Int) by omega]
      | 4, _ => show some (Value.int .u8 (255 - (q : Int))) = some (Value.int .u8 ((UInt8.ofNat (255 - u.size / 256)).toNat : Nat)); rw [UInt8.toNat_ofNat', hq, Nat.mod_eq_of_lt (by omega), show ((255 - q : Nat) : Int) = 255 - (q : Int) by omega]
    have HW := hid (show Bw w1 (w1.alloc (.cells #[.int .u8 0, .int .u8 (r : Nat), .int .u8 (q : Nat), .int .u8 (255 - (r : Int)), .int .u8 (255 - (q : Int))] 5)) from (Bw.refl w1).alloc _)
    have h5z : (hd5 u.size).size = 5 := rfl
    have HF := hid (infR_few (L := 100000) HR1.out)
    go_wp2_with fail
    have HTW := hid (HT1.out.bw HW.out)
    generalize w1.alloc _ = W2 at *
    refine (inflate_any (hd5 u.size ++ u ++ s) HS2.out 150000 W2 HTW.out).mono ?_
    rintro e w3 ⟨b, m, fr, rfl, hr3, hb3⟩
    have HB3 := hid (HB1.out.trans (HW.out.trans hb3))
    have HT3 := hid (HT.out.bw HB3.out)
    obtain ⟨rfl, rfl, rfl⟩ := ahead_plain h2 HR1.out hr3
    clear hr3 hb3 hcv HW HTW
    have hua : u.size + a.size ≤ 9223372036854775807 := by have := HF.out; omega
    go_wp2_with fail
    refine (live_any w3 HT3.out).mono ?_
    rintro e wl ⟨rfl, hbl⟩
    have HBL := hid hbl
    clear hbl
    go_wp2
    go_returns
    exact ⟨rfl, HB3.out.trans HBL.out⟩
  · have t4 : (er != 0) = true := by simpa using h0
    clear HR1
    go_wp2_with fail
    refine (live_any w1 HT1.out).mono ?_
    rintro e wl ⟨rfl, hbl⟩
    have HBL := hid hbl
    clear hbl
    go_wp2
    go_returns
    exact ⟨rfl, HB1.out.trans HBL.out⟩
theorem walk (s : ByteArray) (hs : s.size ≤ 140737488351232) (t : ByteArray) (ht : t.size ≤ 140737488351232) (w : World) (hh : Tabs w.heap.size w) :
    Calls Tryd.prog 8 #[.string s, .string t] w fun e w' => e = .returned (.bool true) ∧ Bw w w' := by
  by_cases h : s.size ≤ 20000
  · by_cases h2 : t.size ≤ 20000
    · exact small s t h h2 w hh
    · exact big2 s t h h2 w hh
  · exact big1 s t h w hh

/-! The frame: from the walk to the statement. -/
set_option maxRecDepth 100000 in
theorem lifted (os : Os) (started : os.Started) (H : Type) (enc : TypeId × Value → H) :
    ReturnsInHanded {} Tryd.checked os 8 .any (fun w args => (Rows.inflateAheadSpec.pre enc Tryd.prog Tryd.f8 [] false w args ∧ laidMetH Tryd.prog Rows.inflateReadsRow.laid w) ∧ sizedMet enc Tryd.prog Tryd.f8 (OpenSpec.ofChange Rows.inflateAheadSpec) false w args)
      (Rows.inflateAheadSpec.post enc Tryd.prog Tryd.f8 false true false false) := by
  refine returnsInHanded_of_change_and (C := Tryd.checked) (X := fun w _ => laidMetH Tryd.prog Rows.inflateReadsRow.laid w) (fun _ _ _ hh h => h.of_heap hh) own started (by kernel_rfl) Tryd.func8
    (ChangeSpec.witness_shaped (enc := enc) (C := Tryd.checked) (os := os) (X := fun w _ => laidMetH Tryd.prog Rows.inflateReadsRow.laid w) false (World.doorLaid Tryd.prog 400 os) #[.string ⟨#[]⟩, .string ⟨#[]⟩] 8 rfl (World.shaped_of_RefB (by kernel_rfl) (by kernel_rfl)) (by kernel_rfl) (by kernel_rfl) (by kernel_rfl) (door_met os _)) ?_
  intro W base args ds gs before hval0 hW _ hsz0 hL _
  have hval : ∀ (j : Nat) t v, Tryd.f8.params[j]? = some t → args[j]? = some v → Value.okWide Tryd.prog W .any base t v := hval0
  have hW' := hW
  obtain ⟨p, q, hA0, hV, rfl, hfz, hnd⟩ := hW
  have hA : DataW.TrodAll enc Tryd.prog W 0 (fun _ => true) true Tryd.f8.params.toList args.toList ds p := hA0
  have hsz : (DataW.weightsEach Tryd.prog (Tryd.f8.params.toList ++ Rows.inflateAheadSpec.plain.varTypes Tryd.prog) (ds ++ gs)).all (· ≤ reachBytes) = true := hsz0
  rw [Tryd.params8] at hA hval hsz
  obtain ⟨v0, vs0, d0, ds0, p0, q0, hargs, rfl, rfl, h0, r0⟩ := trodAll_cons hA
  obtain ⟨v1, vs1, d1, ds1, p1, q1, rfl, rfl, rfl, h1, r1⟩ := trodAll_cons r0
  obtain ⟨rfl, rfl, rfl⟩ := trodAll_nil r1
  obtain rfl : args = #[v0, v1] := by cases args; simp_all
  obtain ⟨rfl, rfl⟩ := trodVars_none hV
  obtain ⟨a0, rfl, rfl, rfl, w0⟩ := open_string Tryd.underlying9 (hval 0 9 v0 rfl rfl) h0
  have z0 := sized_string hsz (j := 0) (t := 9) (bytes := a0.data.toList) rfl rfl
  obtain ⟨a1, rfl, rfl, rfl, w1⟩ := open_string Tryd.underlying9 (hval 1 9 v1 rfl rfl) h1
  have z1 := sized_string hsz (j := 1) (t := 9) (bytes := a1.data.toList) rfl rfl
  clear hA0 hval0
  try simp only [List.append_nil] at hW'
  refine (walk a0 (str_le z0) a1 (str_le z1) W (tabs_of hL)).mono fun e W' ⟨he, bel⟩ => ?_
  subst he
  exact ⟨_, rfl, _, _, _, [], _, [], hW', trodAll_mk1 (shut_bool Tryd.underlying4 _), (trodAll_cons_mk (shut_string Tryd.underlying9 w0) (trodAll_cons_mk (shut_string Tryd.underlying9 w1) trodAll_mk0)), rfl, Below.frame bel _, fun h => by cases h⟩

theorem holds : Rows.InflateAheadSaid :=
  OpenClaim.holds_of_wide 8 Tryd.f8 rfl rfl rfl rfl rfl rfl rfl ⟨rfl, rfl, rfl, rfl, rfl⟩ rfl rfl rfl rfl rfl (by kernel_rfl) Tryd.func8 (by kernel_rfl)
    (of_decide_eq_true (by kernel_rfl)) (by unfold Func.isWrapper; first | (rw [if_pos (by decide +kernel)]; kernel_rfl) | (rw [if_neg (by decide +kernel)]; exact ⟨rfl, rfl⟩))
    (fun os started H enc _ => lifted os started H enc)

theorem proved : Rows.InflateAheadCardSaid :=
  Claim7.holds_tied_plain_at .later [] [.wider, .wider, .data] true _ true
    holds (fun _ h => by cases h) (by kernel_rfl) (fun _ h => by cases h) inflateAhead_row_tie rfl ⟨rfl, rfl⟩ (by kernel_rfl) rfl
    (fun f fn hf hfn => by
      obtain rfl : f = 8 := Option.some.inj ((show Tryd.prog.funcNamed "mortise/mortiselaw07.InflateAhead" = some 8 by kernel_rfl).symm.trans hf) |>.symm
      obtain rfl : fn = Tryd.f8 := (Option.some.inj (Tryd.func8.symm.trans hfn)).symm
      exact ⟨by kernel_rfl, fun j t ht => by
        rw [Tryd.params8] at ht
        have hm : t ∈ [9, 9] := by simpa using Array.mem_of_getElem? ht
        have hall : ([9, 9].all fun u => !Tryd.prog.wantsStandIn u) = true := by kernel_rfl
        exact (show Tryd.prog.wantsStandIn t = false by simpa using List.all_eq_true.1 hall t hm)⟩)
    (by kernel_rfl)
end Go.Proofs.YtaihojjocmdgbaaDoor.inflateAhead

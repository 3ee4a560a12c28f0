/- ExpReads returns true for every text, and changes nothing that was there; no condition but that the listed variables hold what the program's text lays. -/
import Derived.Test.YtlilmidffcmkjaaGreatDoorExpTb
import Derived.Test.YtlilmidffcmkjaaGreatDoorLawKit
import Derived.ShutString
import Derived.ChangeOld
import Derived.SizedLaws
import Derived.Deep.RegionWith
import Derived.Test.YtlilmidffcmkjaaGreatDoorRdY
import Derived.Test.YtlilmidffcmkjaaGreatDoorExpSd
namespace Go.Proofs.YtlilmidffcmkjaaGreatDoor.expReads
open Go.ChangeShapes Go.WideShapes Go.ChangeAt Go.WideMaps Go.WideElems Go.RowKit
open Go.ChangeMaps (open_string shut_string)
set_option linter.unusedVariables false
theorem parse_ok4 {s : ByteArray} {l : List ExpR} (hp : parseF s = some l) (hs : s.size ≤ 20000) (w : World) (h : EnvAt w) :
    Calls Tryz.prog 4 #[.string s] w fun e w' => ∃ a c, e = .returned (.tuple #[.slice a l.length c, .int .i64 0]) ∧ Bw w w' ∧ ExpAt w' a l ∧ l.length ≤ 400 ∧ ∀ o ∈ l, o.Ok := by
  refine (parse_any s (by omega) w h.errs h.sgn).mono ?_
  rintro e w' ⟨hb, hx⟩
  rw [if_neg (by omega), hp] at hx
  obtain ⟨a, c, he, ho, hk, hf⟩ := hx
  exact ⟨a, c, he, hb, ExpAt.of_own ho hk, hf, hk⟩
theorem rparse_ok {s : ByteArray} {l : List ExpR} (hp : parseF s = some l) (hs : s.size ≤ 20000) (hk : ∀ o ∈ l, o.Ok) (w : World) :
    Calls Tryz.prog 5 #[.string s] w fun e w' => ∃ a c, e = .returned (.tuple #[.slice a l.length c, .int .i64 0]) ∧ Bw w w' ∧ ExpAt w' a l := by
  refine (rparse_any s (by omega) w).mono ?_
  rintro e w' ⟨hb, hx⟩
  rw [if_neg (by omega), hp] at hx
  obtain ⟨v, he, ho⟩ := hx
  obtain ⟨a, c, rfl⟩ := own_slice ho
  exact ⟨a, c, he, hb, ExpAt.of_own ho hk⟩
theorem rparse_bad {s : ByteArray} (hp : parseF s = none) (hs : s.size ≤ 20000) (w : World) :
    Calls Tryz.prog 5 #[.string s] w fun e w' => e = .returned (.tuple #[.slice none 0 0, .int .i64 8]) ∧ Bw w w' := by
  refine (rparse_any s (by omega) w).mono ?_
  rintro e w' ⟨hb, hx⟩
  rw [if_neg (by omega), hp] at hx
  exact ⟨hx, hb⟩
theorem rparse_long {s : ByteArray} (hs : 20000 < s.size) (hs2 : s.size ≤ 9223372036854775807) (w : World) :
    Calls Tryz.prog 5 #[.string s] w fun e w' => e = .returned (.tuple #[.slice none 0 0, .int .i64 11]) ∧ Bw w w' := by
  refine (rparse_any s hs2 w).mono ?_
  rintro e w' ⟨hb, hx⟩
  rw [if_pos hs] at hx
  exact ⟨hx, hb⟩
set_option maxRecDepth 100000 in
set_option maxHeartbeats 8000000 in
theorem walk_bad (s : ByteArray) (k : Int) (w : World) (hh : EnvAt w) (hp : Calls Tryz.prog 4 #[.string s] w fun e w' => e = .returned (.tuple #[.slice none 0 0, .int .i64 k]) ∧ Bw w w')
    (hr : ∀ W, Calls Tryz.prog 5 #[.string s] W fun e w' => e = .returned (.tuple #[.slice none 0 0, .int .i64 k]) ∧ Bw W w') :
    Calls Tryz.prog 3 #[.string s] w fun e w' => e = .returned (.bool true) ∧ Bw w w' := by
  have H := hid hh
  have HP := hid hp
  have HR := hid hr
  clear hh hp hr
  go_enter Tryz.func3, Tryz.ntmps3
  go_wp2_with fail
  refine HP.out.mono ?_
  rintro e w1 ⟨rfl, hb1⟩
  have HB1 := hid hb1
  clear hb1
  go_wp2_with fail
  refine (HR.out w1).mono ?_
  rintro e w2 ⟨rfl, hb2⟩
  have HB2 := hid (HB1.out.trans hb2)
  clear hb2
  go_wp2_with fail
  refine (same_eq none none 0 0 0 (by decide) [] (hid rfl) w2 (fun i hi => absurd hi (by simp)) (fun i hi => absurd hi (by simp))).mono ?_
  rintro e w3 ⟨rfl, hb3⟩
  have HB3 := hid (HB2.out.trans hb3)
  clear hb3
  go_wp2_with fail
  refine (live_any w3 (H.out.bw HB3.out)).mono ?_
  rintro e wl ⟨rfl, hbl⟩
  have HBL := hid hbl
  clear hbl
  go_wp2
  go_returns
  exact ⟨rfl, HB3.out.trans HBL.out⟩
set_option maxRecDepth 100000 in
set_option maxHeartbeats 8000000 in
theorem walk_ok (s : ByteArray) (l : List ExpR) (hpf : parseF s = some l) (hs : s.size ≤ 20000) (w : World) (hh : EnvAt w) :
    Calls Tryz.prog 3 #[.string s] w fun e w' => e = .returned (.bool true) ∧ Bw w w' := by
  have H := hid hh
  have HP := hid (parse_ok4 hpf hs w hh)
  have HR := hid (fun (hk : ∀ o ∈ l, o.Ok) W => rparse_ok hpf hs hk W)
  obtain ⟨q, hq⟩ : ∃ q, l.length = q := ⟨_, rfl⟩
  rw [hq] at HP HR
  have HLQ := hid hq
  clear hh hpf hq
  go_enter Tryz.func3, Tryz.ntmps3
  go_wp2_with fail
  refine HP.out.mono ?_
  rintro e w1 ⟨a1, c1, rfl, hb1, ha1, hq4, hok⟩
  have HB1 := hid hb1
  have HA1 := hid ha1
  have HOK := hid hok
  have hq9 : q ≤ 9223372036854775807 := by omega
  clear hb1 ha1 hok
  go_wp2_with fail
  refine (HR.out HOK.out w1).mono ?_
  rintro e w2 ⟨a2, c2, rfl, hb2, ha2⟩
  have HB2 := hid (HB1.out.trans hb2)
  have HA2 := hid ha2
  have HA3 := hid (HA1.out.below hb2)
  clear hb2 ha2
  go_wp2_with fail
  refine (same_eq a1 a2 q c1 c2 hq9 l HLQ w2 HA3.out HA2.out).mono ?_
  rintro e w3 ⟨rfl, hb3⟩
  have HB3 := hid (HB2.out.trans hb3)
  clear hb3
  go_wp2_with fail
  refine (live_any w3 (H.out.bw HB3.out)).mono ?_
  rintro e wl ⟨rfl, hbl⟩
  have HBL := hid hbl
  clear hbl
  go_wp2
  go_returns
  exact ⟨rfl, HB3.out.trans HBL.out⟩
theorem walk (s : ByteArray) (hs : s.size ≤ 140737488351232) (w : World) (hh : EnvAt w) :
    Calls Tryz.prog 3 #[.string s] w fun e w' => e = .returned (.bool true) ∧ Bw w w' := by
  by_cases h20 : 20000 < s.size
  · exact walk_bad s 11 w hh (parse_long h20 (by omega) w hh) (rparse_long h20 (by omega))
  · cases hp : parseF s with
    | none => exact walk_bad s 8 w hh (parse_bad hp (by omega) w hh) (rparse_bad hp (by omega))
    | some l => exact walk_ok s l hp (by omega) w hh

/-! The frame: from the walk to the statement. -/
set_option maxRecDepth 100000 in
theorem lifted (os : Os) (started : os.Started) (H : Type) (enc : TypeId × Value → H) :
    ReturnsInHanded {} Tryz.checked os 3 .any (fun w args => (Rows.expReadsSpec.pre enc Tryz.prog Tryz.f3 [] false w args ∧ laidMetH Tryz.prog Rows.expReadsRow.laid w) ∧ sizedMet enc Tryz.prog Tryz.f3 (OpenSpec.ofChange Rows.expReadsSpec) false w args)
      (Rows.expReadsSpec.post enc Tryz.prog Tryz.f3 false true false false) := by
  refine returnsInHanded_of_change_and (C := Tryz.checked) (X := fun w _ => laidMetH Tryz.prog Rows.expReadsRow.laid w) (fun _ _ _ hh h => h.of_heap hh) own started (by kernel_rfl) Tryz.func3
    (ChangeSpec.witness_shaped (enc := enc) (C := Tryz.checked) (os := os) (X := fun w _ => laidMetH Tryz.prog Rows.expReadsRow.laid w) false (World.laidAll Tryz.prog os Rows.expReadsRow.laid) #[.string ⟨#[]⟩] 8 (World.laidAll_os _ _ _) (World.shaped_of_ZipB (by kernel_rfl) (by kernel_rfl)) (by kernel_rfl) (by kernel_rfl) (by kernel_rfl) (laid_met os _)) ?_
  intro W base args ds gs before hval0 hW _ hsz0 hL _
  have hval : ∀ (j : Nat) t v, Tryz.f3.params[j]? = some t → args[j]? = some v → Value.okWide Tryz.prog W .any base t v := hval0
  have hW' := hW
  obtain ⟨p, q, hA0, hV, rfl, hfz, hnd⟩ := hW
  have hA : DataW.TrodAll enc Tryz.prog W 0 (fun _ => true) true Tryz.f3.params.toList args.toList ds p := hA0
  have hsz : (DataW.weightsEach Tryz.prog (Tryz.f3.params.toList ++ Rows.expReadsSpec.plain.varTypes Tryz.prog) (ds ++ gs)).all (· ≤ reachBytes) = true := hsz0
  rw [Tryz.params3] at hA hval hsz
  obtain ⟨v0, d0, rfl, rfl, h0⟩ := trodAll_one hA
  obtain ⟨rfl, rfl⟩ := trodVars_none hV
  obtain ⟨a0, rfl, rfl, rfl, w0⟩ := open_string Tryz.underlying9 (hval 0 9 v0 rfl rfl) h0
  have z0 := sized_string hsz (j := 0) (t := 9) (bytes := a0.data.toList) rfl rfl
  clear hA0 hval0
  try simp only [List.append_nil] at hW'
  refine (walk a0 (str_le z0) W  (env_of hL)).mono fun e W' ⟨he, bel⟩ => ?_
  subst he
  exact ⟨_, rfl, _, _, _, [], _, [], hW', trodAll_mk1 (shut_bool Tryz.underlying4 _), trodAll_mk1 (shut_string Tryz.underlying9 w0), rfl, Below.frame bel _, fun h => by cases h⟩

theorem holds : Rows.ExpReadsSaid :=
  OpenClaim.holds_of_wide 3 Tryz.f3 rfl rfl rfl rfl rfl rfl rfl ⟨rfl, rfl, rfl, rfl, rfl⟩ rfl rfl rfl rfl rfl (by kernel_rfl) Tryz.func3 (by kernel_rfl)
    (of_decide_eq_true (by kernel_rfl)) (by unfold Func.isWrapper; first | (rw [if_pos (by decide +kernel)]; kernel_rfl) | (rw [if_neg (by decide +kernel)]; exact ⟨rfl, rfl⟩))
    (fun os started H enc _ => lifted os started H enc)

theorem proved : Rows.ExpReadsCardSaid :=
  Claim7.holds_tied_plain_at .later [] [.data, .data, .data, .data, .sentinel, .sentinel, .data, .pinned] true _ true
    holds (fun _ h => by cases h) (by kernel_rfl) (fun _ h => by cases h) expReads_row_tie rfl ⟨rfl, rfl⟩ (by kernel_rfl) rfl
    (fun f fn hf hfn => by
      obtain rfl : f = 3 := Option.some.inj ((show Tryz.prog.funcNamed "mortise/mortiselaw11.ExpReads" = some 3 by kernel_rfl).symm.trans hf) |>.symm
      obtain rfl : fn = Tryz.f3 := (Option.some.inj (Tryz.func3.symm.trans hfn)).symm
      exact ⟨by kernel_rfl, fun j t ht => by
        rw [Tryz.params3] at ht
        have hm : t ∈ [9] := by simpa using Array.mem_of_getElem? ht
        have hall : ([9].all fun u => !Tryz.prog.wantsStandIn u) = true := by kernel_rfl
        exact (show Tryz.prog.wantsStandIn t = false by simpa using List.all_eq_true.1 hall t hm)⟩)
    (by kernel_rfl)
end Go.Proofs.YtlilmidffcmkjaaGreatDoor.expReads

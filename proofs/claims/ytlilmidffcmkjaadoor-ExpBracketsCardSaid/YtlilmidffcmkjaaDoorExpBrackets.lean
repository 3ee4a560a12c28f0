/- ExpBrackets returns true for every text, and changes nothing that was there; no condition but that the listed variables hold what the program's text lays. -/
import Derived.Test.YtlilmidffcmkjaaDoorExpTb
import Derived.Test.YtlilmidffcmkjaaDoorLawKit
import Derived.ShutString
import Derived.ChangeOld
import Derived.SizedLaws
import Derived.Deep.RegionWith
import Derived.Test.YtlilmidffcmkjaaDoorPrsL
import Derived.Test.YtlilmidffcmkjaaDoorExpSd
namespace Go.Proofs.YtlilmidffcmkjaaDoor.expBrackets
open Go.ChangeShapes Go.WideShapes Go.ChangeAt Go.WideMaps Go.WideElems Go.RowKit
open Go.ChangeMaps (open_string shut_string)
set_option linter.unusedVariables false
theorem parse_okf {s : ByteArray} {l : List ExpR} (hp : parseF s = some l) (hs : s.size ≤ 20000) (w : World) (h : EnvAt w) :
    Calls Tryd.prog 16 #[.string s] w fun e w' => ∃ a c, e = .returned (.tuple #[.slice a l.length c, .int .i64 0]) ∧ Bw w w' ∧ ExpAt w' a l ∧ l.length ≤ 400 := by
  refine (parse_any s (by omega) w h.errs h.sgn).mono ?_
  rintro e w' ⟨hb, hx⟩
  rw [if_neg (by omega), hp] at hx
  obtain ⟨a, c, he, ho, hk, hf⟩ := hx
  exact ⟨a, c, he, hb, ExpAt.of_own ho hk, hf⟩
set_option maxRecDepth 100000 in
set_option maxHeartbeats 8000000 in
theorem walk (s : ByteArray) (hs : s.size ≤ 140737488351232) (w : World) (hh : EnvAt w) :
    Calls Tryd.prog 7 #[.string s] w fun e w' => e = .returned (.bool true) ∧ Bw w w' := by
  have H := hid hh
  by_cases h1 : 19000 < s.size
  · have t1 : (19000 : Int) < s.size := by omega
    clear hh h1
    go_enter Tryd.func7, Tryd.ntmps7
    go_wp2_with fail
    refine (live_any w (H.out)).mono ?_
    rintro e wl ⟨rfl, hbl⟩
    have HBL := hid hbl
    clear hbl
    go_wp2
    go_returns
    exact ⟨rfl, HBL.out⟩
  · have t1 : ¬ (19000 : Int) < s.size := by omega
    have HD := hid (fun W => deep_any s (by omega) W)
    have HDP := hid (fun k (hk : k ≤ s.size) => dpt_deep s k hk)
    by_cases h2 : 19 < deepF s
    · clear hh
      generalize deepF s = d at *
      go_enter Tryd.func7, Tryd.ntmps7
      go_wp2_with fail
      refine (HD.out w).mono ?_
      rintro e w1 ⟨rfl, rfl⟩
      go_wp2_with fail
      refine (live_any w1 (H.out)).mono ?_
      rintro e wl ⟨rfl, hbl⟩
      have HBL := hid hbl
      clear hbl
      go_wp2
      go_returns
      exact ⟨rfl, HBL.out⟩
    · have hz := brkT_size s
      have HBK := hid (brkT_brk s)
      have HBT := hid (show brkT s = ⟨#[10, 40, 32]⟩ ++ s ++ ⟨#[9, 41, 32]⟩ from rfl)
      have hbt := HBT.out.symm
      have hz2 : (⟨#[10, 40, 32]⟩ ++ s : ByteArray).size = s.size + 3 := by simp [ByteArray.size_append]; show 3 + s.size = _; omega
      have k1 : (⟨#[10, 40, 32]⟩ : ByteArray).size = 3 := rfl
      have k2 : (⟨#[9, 41, 32]⟩ : ByteArray).size = 3 := rfl
      generalize hT : brkT s = T at *
      have n1 : ¬ 9223372036854775807 < (⟨#[10, 40, 32]⟩ : ByteArray).size + s.size := by omega
      have n2 : ¬ 9223372036854775807 < (⟨#[10, 40, 32]⟩ ++ s : ByteArray).size + (⟨#[9, 41, 32]⟩ : ByteArray).size := by omega
      have n3 : ¬ 9223372036854775807 < 3 + s.size := by omega
      have n4 : ¬ 9223372036854775807 < 3 + s.size + 3 := by omega
      have n5 : ¬ 9223372036854775807 < s.size + 3 + 3 := by omega
      have HH2 := hid h2
      have hdd : ∀ k, k ≤ s.size → dpt s k ≤ 19 := fun k hk => by have := HDP.out k hk; have := HH2.out; omega
      have HD19 := hid hdd
      generalize deepF s = d at *
      have HSZ := hid (show s.size ≤ 19000 by omega)
      have HTZ := hid (show T.size ≤ 20000 by omega)
      clear hh hdd HDP HBT hT
      go_enter Tryd.func7, Tryd.ntmps7
      go_wp2_with fail
      refine (HD.out w).mono ?_
      rintro e w0 ⟨rfl, rfl⟩
      go_wp2_with fail
      go_loopw [3, 4] (fun vd vi wr => ∃ k : Nat, k ≤ s.size ∧ vd = .int .i64 (dpt s k) ∧ vi = .int .i64 k ∧ Hid (∀ j, j ≤ k → 0 ≤ dpt s j) ∧ wr = w0) (fun _ vi _ => s.size - (intOf vi).toNat)
      case atStart => exact ⟨0, Nat.zero_le _, rfl, rfl, hid (fun j hj => by obtain rfl : j = 0 := by omega
                                                                             exact Int.le_refl _), rfl⟩
      case round =>
        obtain ⟨k, hk, rfl, rfl, HJ, rfl⟩ := hrel
        rename World => wr
        by_cases hlt : k < s.size
        · have hk1 : (k : Int) < s.size := by omega
          have hst := dpt_step s k hlt
          have hbd := dpt_le s k
          have hbd2 := dpt_le s (k + 1)
          have HN := hid (fun (h : 0 ≤ dpt s (k + 1)) j (hj : j ≤ k + 1) => (show 0 ≤ dpt s j from by
            by_cases c : j ≤ k
            · exact HJ.out j c
            · obtain rfl : j = k + 1 := by omega
              exact h))
          obtain ⟨p, hp⟩ : ∃ p, dpt s k = p := ⟨_, rfl⟩
          obtain ⟨p2, hp2⟩ : ∃ p2, dpt s (k + 1) = p2 := ⟨_, rfl⟩
          have HP2 := hid hp2
          rw [hp, hp2] at hst
          rw [hp] at hbd ⊢
          rw [hp2] at hbd2 HN
          clear hp hp2
          by_cases c40 : s[k] = 40
          · have e40 : (s[k]'hlt).toNat = 40 := by rw [c40]; rfl
            rw [c40, brk_in] at hst
            have HST := hid hst
            by_cases hng : p2 < 0
            · have g1 : p + 1 < 0 := by omega
              clear hst c40 HN
              go_wp2_with fail
              refine (live_any wr (H.out)).mono ?_
              rintro e wl ⟨rfl, hbl⟩
              have HBL := hid hbl
              clear hbl
              go_wp2
              go_returns
              exact ⟨rfl, HBL.out⟩
            · have g1 : ¬ p + 1 < 0 := by omega
              have HN2 := hid (HN.out (by omega))
              clear hst c40 HN
              go_wp2
              exact ⟨⟨k + 1, by omega, by rw [HP2.out, HST.out], by go_num, HN2, trivial⟩, by simp [intOf]; omega⟩
          · have n40 : ¬ (s[k]'hlt).toNat = 40 := fun e => c40 (UInt8.toNat_inj.1 (by rw [e]; rfl))
            by_cases c41 : s[k] = 41
            · have e41 : (s[k]'hlt).toNat = 41 := by rw [c41]; rfl
              rw [c41, brk_out] at hst
              have HST := hid hst
              by_cases hng : p2 < 0
              · have g1 : p - 1 < 0 := by omega
                clear hst c40 c41 HN
                go_wp2_with fail
                refine (live_any wr (H.out)).mono ?_
                rintro e wl ⟨rfl, hbl⟩
                have HBL := hid hbl
                clear hbl
                go_wp2
                go_returns
                exact ⟨rfl, HBL.out⟩
              · have g1 : ¬ p - 1 < 0 := by omega
                have HN2 := hid (HN.out (by omega))
                clear hst c40 c41 HN
                go_wp2
                exact ⟨⟨k + 1, by omega, by rw [HP2.out, HST.out], by go_num, HN2, trivial⟩, by simp [intOf]; omega⟩
            · have n41 : ¬ (s[k]'hlt).toNat = 41 := fun e => c41 (UInt8.toNat_inj.1 (by rw [e]; rfl))
              rw [brk_no c40 c41] at hst
              have HST := hid hst
              by_cases hng : p2 < 0
              · have g1 : p < 0 := by omega
                clear hst c40 c41 HN
                go_wp2_with fail
                refine (live_any wr (H.out)).mono ?_
                rintro e wl ⟨rfl, hbl⟩
                have HBL := hid hbl
                clear hbl
                go_wp2
                go_returns
                exact ⟨rfl, HBL.out⟩
              · have g1 : ¬ p < 0 := by omega
                have HN2 := hid (HN.out (by omega))
                clear hst c40 c41 HN
                go_wp2
                exact ⟨⟨k + 1, by omega, by rw [HP2.out, HST.out], by go_num, HN2, trivial⟩, by simp [intOf]; omega⟩
        · obtain rfl : k = s.size := by omega
          have hpar := HBK.out.parse (fun k hk => ⟨HJ.out k hk, HD19.out k hk⟩)
          have HW := hid (Bw.refl wr)
          generalize dpt s s.size = p at *
          cases hp : parseF s with
          | none =>
            rw [hp] at hpar
            have HP := hid (fun W (h : Bw wr W) => parse_bad hp (by have := HSZ.out; omega) W (H.out.bw h))
            have HQ := hid (fun W (h : Bw wr W) => parse_bad hpar HTZ.out W (H.out.bw h))
            clear hp hpar
            go_wp2_with fail
            refine (HP.out wr HW.out).mono ?_
            rintro e w1 ⟨rfl, hb1⟩
            have HB1 := hid (HW.out.trans hb1)
            clear hb1
            go_wp2_with fail
            refine (HQ.out w1 HB1.out).mono ?_
            rintro e w2 ⟨rfl, hb2⟩
            have HB2 := hid (HB1.out.trans hb2)
            clear hb2
            go_wp2_with fail
            refine (same_eq none none 0 0 0 (by decide) [] (hid rfl) w2 (fun i hi => absurd hi (by simp)) (fun i hi => absurd hi (by simp))).mono ?_
            rintro e w3 ⟨rfl, hb3⟩
            have HB3 := hid (HB2.out.trans hb3)
            clear hb3
            go_wp2_with fail
            refine (live_any w3 (H.out.bw HB3.out)).mono ?_
            rintro e wl ⟨rfl, hbl⟩
            have HBL := hid hbl
            clear hbl
            go_wp2
            go_returns
            exact ⟨rfl, HB3.out.trans HBL.out⟩
          | some l =>
            rw [hp] at hpar
            have HP := hid (fun W (h : Bw wr W) => parse_okf hp (by have := HSZ.out; omega) W (H.out.bw h))
            have HQ := hid (fun W (h : Bw wr W) => parse_ok hpar HTZ.out W (H.out.bw h))
            obtain ⟨q, hq⟩ : ∃ q, l.length = q := ⟨_, rfl⟩
            rw [hq] at HP HQ
            have HLQ := hid (hid hq)
            clear hp hpar hq
            go_wp2_with fail
            refine (HP.out wr HW.out).mono ?_
            rintro e w1 ⟨a1, c1, rfl, hb1, ha1, hq4⟩
            have HB1 := hid (HW.out.trans hb1)
            have HA1 := hid ha1
            clear hb1 ha1
            go_wp2_with fail
            refine (HQ.out w1 HB1.out).mono ?_
            rintro e w2 ⟨a2, c2, rfl, hb2, ha2⟩
            have HB2 := hid (HB1.out.trans hb2)
            have HA2 := hid ha2
            have HA3 := hid (HA1.out.below hb2)
            clear hb2 ha2
            go_wp2_with fail
            refine (same_eq a1 a2 q c1 c2 (by omega) l HLQ.out w2 HA3.out HA2.out).mono ?_
            rintro e w3 ⟨rfl, hb3⟩
            have HB3 := hid (HB2.out.trans hb3)
            clear hb3
            go_wp2_with fail
            refine (live_any w3 (H.out.bw HB3.out)).mono ?_
            rintro e wl ⟨rfl, hbl⟩
            have HBL := hid hbl
            clear hbl
            go_wp2
            go_returns
            exact ⟨rfl, HB3.out.trans HBL.out⟩

/-! The frame: from the walk to the statement. -/
set_option maxRecDepth 100000 in
theorem lifted (os : Os) (started : os.Started) (H : Type) (enc : TypeId × Value → H) :
    ReturnsInHanded {} Tryd.checked os 7 .any (fun w args => (Rows.expBracketsSpec.pre enc Tryd.prog Tryd.f7 [] false w args ∧ laidMetH Tryd.prog Rows.expChecksRow.laid w) ∧ sizedMet enc Tryd.prog Tryd.f7 (OpenSpec.ofChange Rows.expBracketsSpec) false w args)
      (Rows.expBracketsSpec.post enc Tryd.prog Tryd.f7 false true false false) := by
  refine returnsInHanded_of_change_and (C := Tryd.checked) (X := fun w _ => laidMetH Tryd.prog Rows.expChecksRow.laid w) (fun _ _ _ hh h => h.of_heap hh) own started (by kernel_rfl) Tryd.func7
    (ChangeSpec.witness_shaped (enc := enc) (C := Tryd.checked) (os := os) (X := fun w _ => laidMetH Tryd.prog Rows.expChecksRow.laid w) false (World.laidAll Tryd.prog os Rows.expChecksRow.laid) #[.string ⟨#[]⟩] 8 (World.laidAll_os _ _ _) (World.shaped_of_ZipB (by kernel_rfl) (by kernel_rfl)) (by kernel_rfl) (by kernel_rfl) (by kernel_rfl) (laid_met os _)) ?_
  intro W base args ds gs before hval0 hW _ hsz0 hL _
  have hval : ∀ (j : Nat) t v, Tryd.f7.params[j]? = some t → args[j]? = some v → Value.okWide Tryd.prog W .any base t v := hval0
  have hW' := hW
  obtain ⟨p, q, hA0, hV, rfl, hfz, hnd⟩ := hW
  have hA : DataW.TrodAll enc Tryd.prog W 0 (fun _ => true) true Tryd.f7.params.toList args.toList ds p := hA0
  have hsz : (DataW.weightsEach Tryd.prog (Tryd.f7.params.toList ++ Rows.expBracketsSpec.plain.varTypes Tryd.prog) (ds ++ gs)).all (· ≤ reachBytes) = true := hsz0
  rw [Tryd.params7] at hA hval hsz
  obtain ⟨v0, d0, rfl, rfl, h0⟩ := trodAll_one hA
  obtain ⟨rfl, rfl⟩ := trodVars_none hV
  obtain ⟨a0, rfl, rfl, rfl, w0⟩ := open_string Tryd.underlying9 (hval 0 9 v0 rfl rfl) h0
  have z0 := sized_string hsz (j := 0) (t := 9) (bytes := a0.data.toList) rfl rfl
  clear hA0 hval0
  try simp only [List.append_nil] at hW'
  refine (walk a0 (str_le z0) W  (env_of hL)).mono fun e W' ⟨he, bel⟩ => ?_
  subst he
  exact ⟨_, rfl, _, _, _, [], _, [], hW', trodAll_mk1 (shut_bool Tryd.underlying4 _), trodAll_mk1 (shut_string Tryd.underlying9 w0), rfl, Below.frame bel _, fun h => by cases h⟩

theorem holds : Rows.ExpBracketsSaid :=
  OpenClaim.holds_of_wide 7 Tryd.f7 rfl rfl rfl rfl rfl rfl rfl ⟨rfl, rfl, rfl, rfl, rfl⟩ rfl rfl rfl rfl rfl (by kernel_rfl) Tryd.func7 (by kernel_rfl)
    (of_decide_eq_true (by kernel_rfl)) (by unfold Func.isWrapper; first | (rw [if_pos (by decide +kernel)]; kernel_rfl) | (rw [if_neg (by decide +kernel)]; exact ⟨rfl, rfl⟩))
    (fun os started H enc _ => lifted os started H enc)

theorem proved : Rows.ExpBracketsCardSaid :=
  Claim7.holds_tied_plain_at .later [] [.data, .data, .data, .data, .sentinel, .sentinel, .data, .pinned] true _ true
    holds (fun _ h => by cases h) (by kernel_rfl) (fun _ h => by cases h) expBrackets_row_tie rfl ⟨rfl, rfl⟩ (by kernel_rfl) rfl
    (fun f fn hf hfn => by
      obtain rfl : f = 7 := Option.some.inj ((show Tryd.prog.funcNamed "mortise/mortiselaw11.ExpBrackets" = some 7 by kernel_rfl).symm.trans hf) |>.symm
      obtain rfl : fn = Tryd.f7 := (Option.some.inj (Tryd.func7.symm.trans hfn)).symm
      exact ⟨by kernel_rfl, fun j t ht => by
        rw [Tryd.params7] at ht
        have hm : t ∈ [9] := by simpa using Array.mem_of_getElem? ht
        have hall : ([9].all fun u => !Tryd.prog.wantsStandIn u) = true := by kernel_rfl
        exact (show Tryd.prog.wantsStandIn t = false by simpa using List.all_eq_true.1 hall t hm)⟩)
    (by kernel_rfl)
end Go.Proofs.YtlilmidffcmkjaaDoor.expBrackets

/- An operand is read, where what stands in brackets is (contract of the parser's method). -/
import Derived.Test.YtlilmidffcmkjaaGreatDoorPrsG
namespace Go.Proofs.YtlilmidffcmkjaaGreatDoor
open Go.RowKit
set_option linter.unusedVariables false
set_option linter.unusedSimpArgs false
theorem pre_drop (s : ByteArray) (k : Nat) (c : UInt8) : Lib.hasPrefix (dropS s k).data.toList [c] = decide (bAt s k = c.toNat) :=
  pre_one _ c _ (by rw [← bAt_get, bAt_drop]; rfl)
theorem cut_yes (s : ByteArray) (k : Nat) (c : UInt8) (h : bAt s k = c.toNat) (w : World) :
    Calls Tryz.prog 36 #[.string (dropS s k), .string ⟨#[c]⟩] w fun e w' => e = .returned (.tuple #[.string (dropS s (k + 1)), .bool true]) ∧ w' = w := by
  have hc := lib_CutPrefix (dropS s k) ⟨#[c]⟩ w
  have h1 : Lib.hasPrefix (dropS s k).data.toList [c] = true := by rw [pre_drop]; exact decide_eq_true h
  have h2 : (⟨(Lib.trimPrefix (dropS s k).data.toList [c]).toArray⟩ : ByteArray) = dropS s (k + 1) := by
    apply ba_eq
    show Lib.trimPrefix (dropS s k).data.toList [c] = _
    unfold Lib.trimPrefix
    rw [h1, if_pos rfl, dropS_data, dropS_data, List.drop_drop]
    rfl
  rw [show (⟨#[c]⟩ : ByteArray).data.toList = [c] from rfl, h1, h2] at hc
  exact hc
theorem cut_no (s : ByteArray) (k : Nat) (c : UInt8) (h : ¬ bAt s k = c.toNat) (w : World) :
    Calls Tryz.prog 36 #[.string (dropS s k), .string ⟨#[c]⟩] w fun e w' => e = .returned (.tuple #[.string (dropS s k), .bool false]) ∧ w' = w := by
  have hc := lib_CutPrefix (dropS s k) ⟨#[c]⟩ w
  have h1 : Lib.hasPrefix (dropS s k).data.toList [c] = false := by rw [pre_drop]; exact decide_eq_false h
  have h2 : (⟨(Lib.trimPrefix (dropS s k).data.toList [c]).toArray⟩ : ByteArray) = dropS s k := by
    apply ba_eq
    show Lib.trimPrefix (dropS s k).data.toList [c] = _
    unfold Lib.trimPrefix
    rw [h1]
    rfl
  rw [show (⟨#[c]⟩ : ByteArray).data.toList = [c] from rfl, h1, h2] at hc
  exact hc
set_option maxRecDepth 100000 in
set_option maxHeartbeats 8000000 in
/-- Without a bracket. -/
theorem operand_leaf (w0 w : World) (g : Nat) (s : ByteArray) (hs20 : s.size ≤ 20000) (k deep : Nat) (l : List ExpR) (v : Value) (h : PrsS w0 w g s k deep l v) (hE : ErrsAt w0) (hb : ¬ bAt s (skipK s k) = 40) :
    Calls Tryz.prog 24 #[.pointer (some ⟨g, 0, none⟩)] w (PrsP w0 w g s deep (opdW s (ex s) (skipK s k) deep l)) := by
  have HSK := hid (skip_any w0 w g s k deep l v h)
  have hO : opdW s (ex s) (skipK s k) deep l = match leafX s (skipK s k) (wordK s (skipK s k)) with | some x => if l.length < 400 then some (l.length, wordK s (skipK s k), l ++ [x]) else none | none => none := by
    unfold opdW
    rw [if_neg hb]
    rfl
  have HCU := hid (fun W => cut_no s (skipK s k) 40 hb W)
  obtain ⟨q, hq⟩ : ∃ q, skipK s k = q := ⟨_, rfl⟩
  rw [hq] at HSK hO HCU ⊢
  obtain ⟨R, hR⟩ : ∃ R, opdW s (ex s) q deep l = R := ⟨_, rfl⟩
  rw [hR] at hO ⊢
  have HO := hid hO
  have HE := hid hE
  have HLE := hid (fun W (hW : PrsS w0 W g s q deep l v) => leaf_any w0 W g s hs20 q deep l v hW hE)
  clear h hE hb hO hR hq
  go_enter Tryz.func24, Tryz.ntmps24
  go_wp2_with fail
  refine HSK.out.mono ?_
  rintro e w2 ⟨rfl, hs2, hk2⟩
  have HS2 := hid hs2
  have HK2 := hid hk2
  have c0 := hs2.pr.cell 0
  simp at c0
  clear hs2 hk2
  go_wp2_with fail
  refine (HCU.out _).mono ?_
  rintro e w3 ⟨rfl, rfl⟩
  go_wp2_with fail
  refine (HLE.out _ HS2.out).mono ?_
  rintro e w4 ⟨hk4, hx⟩
  have HK4 := hid (HK2.out.trans hk4)
  clear hk4 c0
  cases hlx : leafX s q (wordK s q) with
  | none =>
    rw [hlx] at hx
    have HO2 := hid (show R = none from by rw [HO.out, hlx])
    obtain rfl := hx
    clear hlx
    exact ⟨rfl, HK4.out, by rw [HO2.out]⟩
  | some x =>
    rw [hlx] at hx
    obtain ⟨rfl, hxo, hs4⟩ := hx
    have HS4 := hid hs4
    by_cases hf : l.length < 400
    · have HO2 := hid (show R = some (l.length, wordK s q, l ++ [x]) from by rw [HO.out, hlx]; exact if_pos hf)
      have HAD := hid (add_ok w0 w4 g s (wordK s q) deep l v hs4 x hxo hf)
      clear hlx hs4 hxo hf
      go_wp2_with fail
      refine HAD.out.mono ?_
      rintro e w5 ⟨hk5, rfl, hi, v5, hs5⟩
      have HK5 := hid (HK4.out.trans hk5)
      have HS5 := hid hs5
      have HI := hid hi
      clear hk5 hs5 hi
      go_wp2
      go_returns
      exact ⟨HK5.out, by rw [HO2.out]; exact ⟨rfl, HI.out, v5, HS5.out⟩⟩
    · have HO2 := hid (show R = none from by rw [HO.out, hlx]; exact if_neg hf)
      have HAD := hid (add_bad w0 w4 g s (wordK s q) deep l v hs4 x hxo hf)
      clear hlx hs4 hxo hf
      go_wp2_with fail
      refine HAD.out.mono ?_
      rintro e w5 ⟨hk5, rfl⟩
      exact ⟨rfl, HK4.out.trans hk5, by rw [HO2.out]⟩
set_option maxRecDepth 100000 in
set_option maxHeartbeats 8000000 in
/-- With a bracket. -/
theorem operand_brk (w0 w : World) (g : Nat) (s : ByteArray) (hs20 : s.size ≤ 20000) (k deep : Nat) (l : List ExpR) (v : Value) (h : PrsS w0 w g s k deep l v) (hb : bAt s (skipK s k) = 40)
    (HEX : ∀ W v', PrsS w0 W g s (skipK s k + 1) (deep + 1) l v' → Calls Tryz.prog 14 #[.pointer (some ⟨g, 0, none⟩), .int .i64 1] W (PrsP w0 W g s (deep + 1) (ex s 1 (skipK s k + 1) (deep + 1) l))) :
    Calls Tryz.prog 24 #[.pointer (some ⟨g, 0, none⟩)] w (PrsP w0 w g s deep (opdW s (ex s) (skipK s k) deep l)) := by
  have hq1 : skipK s k + 1 ≤ s.size := bAt_lt (by rw [hb]; decide)
  have HSK := hid (skip_any w0 w g s k deep l v h)
  have hO : opdW s (ex s) (skipK s k) deep l = if deep < 20 then (match ex s 1 (skipK s k + 1) (deep + 1) l with | some (i, k2, l2) => if bAt s k2 = 41 then some (i, k2 + 1, l2) else none | none => none) else none := by
    unfold opdW
    rw [if_pos hb]
    rfl
  have HCU := hid (fun W => cut_yes s (skipK s k) 40 hb W)
  have HX := hid HEX
  obtain ⟨q, hq⟩ : ∃ q, skipK s k = q := ⟨_, rfl⟩
  rw [hq] at HSK hO HCU HX hq1 ⊢
  obtain ⟨R, hR⟩ : ∃ R, opdW s (ex s) q deep l = R := ⟨_, rfl⟩
  rw [hR] at hO ⊢
  have HO := hid hO
  have HQ := hid hq1
  clear h HEX hb hO hR hq hq1
  go_enter Tryz.func24, Tryz.ntmps24
  go_wp2_with fail
  refine HSK.out.mono ?_
  rintro e w2 ⟨rfl, hs2, hk2⟩
  have HS2 := hid hs2
  have HK2 := hid hk2
  have c0 := hs2.pr.cell 0
  have c1 := hs2.pr.cell 1
  have f1 := hs2.pr.frozen 1
  simp at c0 c1
  have hdp := hs2.dp
  have HKS := hid (hs2.kt_set 1 (.int .i64 ((deep : Int) + 1)))
  clear hs2 hk2
  by_cases hd : deep < 20
  · have HO2 := hid (HO.out.trans (if_pos hd))
    have i1 : (deep : Int) + 1 ≤ 20 := by omega
    have HS3 := hid (HS2.out.open_ (d := deep + 1) (by omega) (x := (deep : Int) + 1) (by omega))
    have HH3 := hid (HS2.out.pr.put 1 (.int .i64 ((deep : Int) + 1)))
    go_wp2_with fail
    refine (HCU.out _).mono ?_
    rintro e w3 ⟨rfl, rfl⟩
    have d1 := HH3.out.cell 1
    have d0 := HH3.out.cell 0
    have g0 := HH3.out.frozen 0
    simp at d1 d0
    go_wp2_with fail
    refine (demand_ok _).mono ?_
    rintro e w4 ⟨rfl, rfl⟩
    generalize hW3 : w3.setCell ⟨g, 1, none⟩ (.int .i64 ((deep : Int) + 1)) = W3 at *
    clear hW3
    have HS4 := hid (HS3.out.rest HQ.out (r := dropS s (q + 1)) rfl)
    have HK4 := hid ((HK2.out.trans HKS.out).trans (HS3.out.kt_set 0 (.string (dropS s (q + 1)))))
    go_wp2_with fail
    generalize W3.setCell ⟨g, 0, none⟩ (.string (dropS s (q + 1))) = W4 at *
    refine (HX.out _ _ HS4.out).mono ?_
    rintro e w5 ⟨hk5, hx⟩
    have HK5 := hid (HK4.out.trans hk5)
    clear hk5 c0 c1 f1 d1 d0 g0
    cases hex : ex s 1 (q + 1) (deep + 1) l with
    | none =>
      rw [hex] at hx
      have HO3 := hid (show R = none from by rw [HO2.out, hex])
      obtain rfl := hx
      clear hex
      exact ⟨rfl, HK5.out, by rw [HO3.out]⟩
    | some y =>
      obtain ⟨i, k2, l2⟩ := y
      rw [hex] at hx
      obtain ⟨rfl, hi, v5, hs5⟩ := hx
      have HI := hid hi
      have HS5 := hid hs5
      have c0 := hs5.pr.cell 0
      have c1 := hs5.pr.cell 1
      have f0 := hs5.pr.frozen 0
      simp at c0 c1
      clear hs5 hi
      by_cases h41 : bAt s k2 = 41
      · have HO3 := hid (show R = some (i, k2 + 1, l2) from by rw [HO2.out, hex]; exact if_pos h41)
        have HCY := hid (fun W => cut_yes s k2 41 h41 W)
        have hk2 : k2 + 1 ≤ s.size := bAt_lt (by rw [h41]; decide)
        have HS6 := hid (HS5.out.rest hk2 (r := dropS s (k2 + 1)) rfl)
        have HK6 := hid (HK5.out.trans (HS5.out.kt_set 0 (.string (dropS s (k2 + 1)))))
        have HH6 := hid (HS5.out.pr.put 0 (.string (dropS s (k2 + 1))))
        have hz6 := HH6.out.cell 1
        have fz6 := HH6.out.frozen 1
        simp at hz6
        have HS7 := hid (HS6.out.open_ (d := deep) (by omega) (x := (deep : Int)) rfl)
        have HK7 := hid (HK6.out.trans (HS6.out.kt_set 1 (.int .i64 (deep : Int))))
        have hsub : IntKind.i64.wrap ((deep : Int) + 1 - 1) = deep := by rw [IntWalk.i64_in _ (by omega)]; omega
        clear hex h41 hk2
        go_wp2_with fail
        refine (HCY.out _).mono ?_
        rintro e w6 ⟨rfl, rfl⟩
        go_wp2_with fail
        refine (demand_ok _).mono ?_
        rintro e w7 ⟨rfl, rfl⟩
        go_wp2
        go_returns
        exact ⟨HK7.out, by rw [HO3.out]; exact ⟨rfl, HI.out, v5, HS7.out⟩⟩
      · have HO3 := hid (show R = none from by rw [HO2.out, hex]; exact if_neg h41)
        have HCN := hid (fun W => cut_no s k2 41 h41 W)
        clear hex h41
        go_wp2_with fail
        refine (HCN.out _).mono ?_
        rintro e w6 ⟨rfl, rfl⟩
        go_wp2_with fail
        refine (demand_bad _).mono ?_
        rintro e w7 ⟨rfl, rfl⟩
        exact ⟨rfl, HK5.out, by rw [HO3.out]⟩
  · have HO2 := hid (HO.out.trans (if_neg hd))
    have i1 : decide ((deep : Int) + 1 ≤ 20) = false := decide_eq_false (by omega)
    have HH3 := hid (HS2.out.pr.put 1 (.int .i64 ((deep : Int) + 1)))
    go_wp2_with fail
    refine (HCU.out _).mono ?_
    rintro e w3 ⟨rfl, rfl⟩
    have d1 := HH3.out.cell 1
    simp at d1
    go_wp2_with fail
    refine (demand_bad _).mono ?_
    rintro e w4 ⟨rfl, rfl⟩
    exact ⟨rfl, HK2.out.trans HKS.out, by rw [HO2.out]⟩
end Go.Proofs.YtlilmidffcmkjaaGreatDoor

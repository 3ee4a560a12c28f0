/- Expressions are read (contract of the parser's methods, by induction on what is left). -/
import Derived.Test.YtlilmidffcmkjaaGreatDoorPrsH
import Derived.Deep.RegionWith
namespace Go.Proofs.YtlilmidffcmkjaaGreatDoor
open Go.RowKit
set_option linter.unusedVariables false
set_option linter.unusedSimpArgs false
/-- How much is left. -/
def restL (g : Nat) (w : World) : Nat := match w.cell? ⟨g, 0, none⟩ with | some (.string d) => d.size | _ => 0
theorem PrsS.restL {w0 w : World} {g : Nat} {s : ByteArray} {k deep : Nat} {l : List ExpR} {v : Value} (h : PrsS w0 w g s k deep l v) : restL g w = s.size - k := by
  have c := h.pr.cell 0
  simp at c
  unfold Proofs.YtlilmidffcmkjaaGreatDoor.restL
  rw [c]
  exact dropS_size s k
set_option maxRecDepth 100000 in
set_option maxHeartbeats 16000000 in
theorem pexpr_step (w0 : World) (g : Nat) (s : ByteArray) (hs20 : s.size ≤ 20000) (hE : ErrsAt w0) (hS : SgnAt w0) (n : Nat)
    (IH : ∀ (least k deep : Nat) (l : List ExpR), 1 ≤ least → least ≤ 7 → s.size < k + n → ∀ W v, PrsS w0 W g s k deep l v → Calls Tryz.prog 14 #[.pointer (some ⟨g, 0, none⟩), .int .i64 least] W (PrsP w0 W g s deep (ex s least k deep l)))
    (least k deep : Nat) (l : List ExpR) (h1 : 1 ≤ least) (h7 : least ≤ 7) (hn : s.size < k + (n + 1)) (w : World) (v : Value) (h : PrsS w0 w g s k deep l v) :
    Calls Tryz.prog 14 #[.pointer (some ⟨g, 0, none⟩), .int .i64 least] w (PrsP w0 w g s deep (ex s least k deep l)) := by
  have hge : k ≤ skipK s k := runK_ge isBlk s k
  have HOP : Hid (Calls Tryz.prog 24 #[.pointer (some ⟨g, 0, none⟩)] w (PrsP w0 w g s deep (opdW s (ex s) (skipK s k) deep l))) := by
    by_cases hb : bAt s (skipK s k) = 40
    · exact operand_brk w0 w g s hs20 k deep l v h hb (fun W v' hW => IH 1 (skipK s k + 1) (deep + 1) l (by omega) (by omega) (by omega) W v' hW)
    · exact operand_leaf w0 w g s hs20 k deep l v h hE hb
  have hX := ex_eq s least k deep l
  have HKQ := hid (fun i k2 l2 (e : opdW s (ex s) (skipK s k) deep l = some (i, k2, l2)) => (show k ≤ k2 from Nat.le_trans hge (opd_grows (ex_grows s) e)))
  obtain ⟨R, hR⟩ : ∃ R, ex s least k deep l = R := ⟨_, rfl⟩
  rw [hR] at hX ⊢
  have HX := hid hX
  have HIH := hid IH
  have HG := hid hS
  clear h hE hX hR IH hge hS
  go_enter Tryz.func14, Tryz.ntmps14
  go_wp2_with fail
  refine HOP.out.mono ?_
  rintro e w2 ⟨hk2, hx⟩
  have HK2 := hid hk2
  clear hk2
  cases hod : opdW s (ex s) (skipK s k) deep l with
  | none =>
    rw [hod] at hx
    have HX2 := hid (show R = none from by rw [HX.out, hod])
    obtain rfl := hx
    exact ⟨rfl, HK2.out, by rw [HX2.out]⟩
  | some y =>
    obtain ⟨i0, k0, l0⟩ := y
    rw [hod] at hx
    obtain ⟨rfl, hi0, v0, hs2⟩ := hx
    have HX2 := hid (show R = lp s least i0 k0 deep l0 from by rw [HX.out, hod])
    have HK0 := hid (HKQ.out _ _ _ hod)
    have HI0 := hid hi0
    have HS2 := hid hs2
    clear hod hs2 hi0
    go_wp2_with fail
    go_loopw [5] (fun lf wr => ∃ (i kk : Nat) (ll : List ExpR) (vv : Value), lf = .int .i64 i ∧ PrsS w0 wr g s kk deep ll vv ∧ KT TP w0.heap.size w wr ∧ Hid (R = lp s least i kk deep ll) ∧ i < ll.length ∧ k ≤ kk) (fun _ wr => restL g wr)
    case atStart => exact ⟨i0, k0, l0, v0, rfl, HS2.out, HK2.out, HX2, HI0.out, HK0.out⟩
    case round =>
      rename World => wr
      obtain ⟨i, kk, ll, vv, rfl, hs3, hk3, HR, hi, hkk⟩ := hrel
      have hge2 : kk ≤ skipK s kk := runK_ge isBlk s kk
      have hle2 : skipK s kk ≤ s.size := runK_le isBlk s kk hs3.ks
      have HOPR := hid (operator_any w0 wr g s hs20 kk deep ll vv hs3 HG.out)
      have hlp := HR.out.trans (lp_eq s least i kk deep ll)
      have hor := opK_or s (skipK s kk)
      have hRL := hs3.restL
      have hfew := hs3.few
      have HIH2 := hid (fun (W : World) (v' : Value) (lv kz : Nat) (h1 : 1 ≤ lv) (h2 : lv ≤ 7) (h3 : kk < kz) (hW : PrsS w0 W g s kz deep ll v') => HIH.out lv kz deep ll h1 h2 (by omega) W v' hW)
      obtain ⟨q, hq⟩ : ∃ q, skipK s kk = q := ⟨_, rfl⟩
      rw [hq] at HOPR hlp hor hge2 hle2
      have hszx : (s.extract q (q + (opK s q).2)).size = (opK s q).2 := by
        rcases hor with e | e
        · rw [e]; simp
        · simp; omega
      obtain ⟨sg, hsg⟩ : ∃ sg, s.extract q (q + (opK s q).2) = sg := ⟨_, rfl⟩
      rw [hsg] at HOPR hlp hszx
      obtain ⟨⟨lev, sz⟩, ho⟩ : ∃ o, opK s q = o := ⟨_, rfl⟩
      rw [ho] at HOPR hlp hor hszx
      simp only at HOPR hlp hor hszx
      have HK3 := hid hk3
      have HKK := hid hkk
      clear hs3 hk3 HR hkk ho hsg hq
      go_wp2_with fail
      refine HOPR.out.mono ?_
      rintro e w3 ⟨rfl, hs4, hk4⟩
      have HS4 := hid hs4
      have HK4 := hid (HK3.out.trans hk4)
      have HBA := hid ((Bw.refl w3).alloc (.cells #[.string sg, .int .i64 (lev : Nat)] 67))
      have HNO := hid (Has.new w3 67 #[.string sg, .int .i64 (lev : Nat)])
      have HS5 := hid (hs4.later HBA.out)
      have HK5 := hid (HK4.out.trans (KT.of_bw HBA.out))
      have n0 := HNO.out.cell 0
      have n1 := HNO.out.cell 1
      have c0 := HS5.out.pr.cell 0
      have f0 := HS5.out.pr.frozen 0
      simp at n0 n1 c0
      clear hs4 hk4
      by_cases c : lev < least
      · have hR : R = some (i, q, ll) := hlp.trans (if_pos (.inl c))
        have HR2 := hid hR
        have ci : ((lev : Nat) : Int) < least := by omega
        have HI := hid hi
        clear hR hlp c hor hszx
        go_wp2
        go_returns
        exact ⟨HK5.out, by rw [HR2.out]; exact ⟨rfl, HI.out, vv, HS5.out⟩⟩
      · have ho2 : 1 ≤ lev ∧ lev ≤ 6 ∧ 1 ≤ sz ∧ sz ≤ 2 ∧ q + sz ≤ s.size := by
          rcases hor with e | e
          · injection e with e1 e2; omega
          · exact e
        have hR := hlp.trans (if_neg (by omega))
        have HR2 := hid hR
        have ci : ¬ ((lev : Nat) : Int) < least := by omega
        have hx2 : (dropS s q).extract sz (dropS s q).size = dropS s (q + sz) := dropS_drop s q sz
        have hds := dropS_size s q
        have HS6 := hid (HS5.out.rest (k' := q + sz) ho2.2.2.2.2 (r := dropS s (q + sz)) rfl)
        have HK6 := hid (HK5.out.trans (HS5.out.kt_set 0 (.string (dropS s (q + sz)))))
        have HGN := hid (show w3.heap.size ≠ g from by have := HS4.out.pr.lt; omega)
        have HNO6 := hid (HNO.out.far (p := ⟨g, 0, none⟩) HGN.out (.string (dropS s (q + sz))))
        have HO2 := hid ho2
        have hszi : (sz : Int) ≤ (dropS s q).size := by rw [hds]; omega
        have hszn : sz ≤ (dropS s q).size := by rw [hds]; omega
        generalize dropS s q = d at *
        clear hR hlp c hor hds
        go_wp2_with fail
        generalize hW5 : w3.alloc (.cells #[.string sg, .int .i64 (lev : Nat)] 67) = W5 at *
        clear hW5
        have c0d : W5.drew.cell? ⟨g, 0, none⟩ = some (.string d) := c0
        have f0d : W5.drew.frozen? ⟨g, 0, none⟩ = false := f0
        have n0d : W5.drew.cell? ⟨w3.heap.size, 0, none⟩ = some (.string sg) := HNO.out.cell 0
        have HB7 := hid (show Bw (W5.setCell ⟨g, 0, none⟩ (.string (dropS s (q + sz)))) (W5.setCell ⟨g, 0, none⟩ (.string (dropS s (q + sz)))).drew from (Bw.refl _).drewN 1)
        have HS7 := hid (HS6.out.later HB7.out)
        have HK7 := hid (HK6.out.trans (KT.of_bw HB7.out))
        have HNO7 := hid (HB7.out.has HNO6.out)
        have HEX := hid (HIH2.out _ vv (lev + 1) (q + sz) (by omega) (by have := HO2.out; omega) (by have := HO2.out; omega) HS7.out)
        rw [show ((lev + 1 : Nat) : Int) = (lev : Int) + 1 from by omega] at HEX
        have hlevw : IntKind.i64.wrap ((lev : Int) + 1) = (lev : Int) + 1 := IntWalk.i64_in _ (by have := HO2.out; omega)
        go_region
        generalize (W5.setCell ⟨g, 0, none⟩ (.string (dropS s (q + sz)))).drew = W7 at *
        have m1 := HNO7.out.cell 1
        simp at m1
        clear c0 f0 c0d f0d n0 n1 hx2
        go_wp2_with fail
        refine HEX.out.mono ?_
        rintro e w8 ⟨hk8, hx8⟩
        have HK8 := hid (HK7.out.trans hk8)
        have HNO8 := hid (hk8.has HNO7.out (by decide))
        clear hk8
        cases hex : ex s (lev + 1) (q + sz) deep ll with
        | none =>
          rw [hex] at hx8
          have HR3 := hid (show R = none from by rw [HR2.out, hex])
          obtain rfl := hx8
          exact ⟨rfl, HK8.out, by rw [HR3.out]⟩
        | some y =>
          obtain ⟨r, k2, l2⟩ := y
          rw [hex] at hx8
          obtain ⟨rfl, hr, v8, hs8⟩ := hx8
          have hgr := ex_grows s _ _ _ _ _ _ _ hex
          have HS8 := hid hs8
          have hf8 := hs8.few
          have m0 := HNO8.out.cell 0
          simp at m0
          have hok : ExpR.Ok ⟨sg, nilS, 0, (i : Nat), (r : Nat)⟩ := ⟨by show sg.size ≤ 9223372036854775807; have := HO2.out; omega, show nilS.size ≤ 9223372036854775807 by decide, show (0 : Nat) < 18446744073709551616 by decide, by show (-9223372036854775808 : Int) ≤ ((i : Nat) : Int) ∧ ((i : Nat) : Int) ≤ 9223372036854775807; omega, by show (-9223372036854775808 : Int) ≤ ((r : Nat) : Int) ∧ ((r : Nat) : Int) ≤ 9223372036854775807; omega⟩
          by_cases hf : l2.length < 400
          · have HR3 := hid (show R = lp s least l2.length k2 deep (l2 ++ [⟨sg, nilS, 0, (i : Nat), (r : Nat)⟩]) from by rw [HR2.out, hex]; exact if_pos hf)
            have HAD : Hid (Calls Tryz.prog 26 #[.pointer (some ⟨g, 0, none⟩), .agg #[.string sg, .string ⟨#[]⟩, .int .u64 0, .int .i64 (i : Nat), .int .i64 (r : Nat)]] w8 (PrsP w0 w8 g s deep (some (l2.length, k2, l2 ++ [⟨sg, nilS, 0, (i : Nat), (r : Nat)⟩])))) := hid (add_ok w0 w8 g s k2 deep l2 v8 hs8 ⟨sg, nilS, 0, (i : Nat), (r : Nat)⟩ hok hf)
            have hms : s.size - k2 < s.size - kk := by have := HO2.out; omega
            have HMS := hid hms
            have HKE := hid (show k ≤ k2 from by have := HKK.out; omega)
            clear hex hs8 hok hf hms hgr hr hf8
            go_wp2_with fail
            refine HAD.out.mono ?_
            rintro e w9 ⟨hk9, rfl, hi9, v9, hs9⟩
            have HK9 := hid (HK8.out.trans hk9)
            have HS9 := hid hs9
            have HI9 := hid hi9
            clear hk9 hs9 hi9
            go_wp2
            refine ⟨⟨l2.length, k2, _, v9, rfl, HS9.out, HK9.out, HR3, HI9.out, HKE.out⟩, ?_⟩
            rw [HS9.out.restL, hRL]
            exact HMS.out
          · have HR3 := hid (show R = none from by rw [HR2.out, hex]; exact if_neg hf)
            have HAD : Hid (Calls Tryz.prog 26 #[.pointer (some ⟨g, 0, none⟩), .agg #[.string sg, .string ⟨#[]⟩, .int .u64 0, .int .i64 (i : Nat), .int .i64 (r : Nat)]] w8 (PrsP w0 w8 g s deep none)) := hid (add_bad w0 w8 g s k2 deep l2 v8 hs8 ⟨sg, nilS, 0, (i : Nat), (r : Nat)⟩ hok hf)
            clear hex hs8 hok hf hgr hr hf8
            go_wp2_with fail
            refine HAD.out.mono ?_
            rintro e w9 ⟨hk9, rfl⟩
            exact ⟨rfl, HK8.out.trans hk9, by rw [HR3.out]⟩
/-- All expressions. -/
theorem pexpr_any (w0 : World) (g : Nat) (s : ByteArray) (hs20 : s.size ≤ 20000) (hE : ErrsAt w0) (hS : SgnAt w0) :
    ∀ (n least k deep : Nat) (l : List ExpR), 1 ≤ least → least ≤ 7 → s.size < k + n → ∀ W v, PrsS w0 W g s k deep l v → Calls Tryz.prog 14 #[.pointer (some ⟨g, 0, none⟩), .int .i64 least] W (PrsP w0 W g s deep (ex s least k deep l))
  | 0, least, k, deep, l, _, _, hn, W, v, h => by have := h.ks; omega
  | n + 1, least, k, deep, l, h1, h7, hn, W, v, h => pexpr_step w0 g s hs20 hE hS n (fun least' k' deep' l' a b c W' v' h' => pexpr_any w0 g s hs20 hE hS n least' k' deep' l' a b c W' v' h') least k deep l h1 h7 hn W v h
end Go.Proofs.YtlilmidffcmkjaaGreatDoor

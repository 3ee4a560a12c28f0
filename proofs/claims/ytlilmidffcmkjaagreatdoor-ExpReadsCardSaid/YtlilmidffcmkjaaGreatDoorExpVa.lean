/- An element's value (contracts of the methods). -/
import Derived.Test.YtlilmidffcmkjaaGreatDoorExpV
import Derived.Deep.RegionWith
namespace Go.Proofs.YtlilmidffcmkjaaGreatDoor
open Go.RowKit
set_option linter.unusedVariables false
set_option linter.unusedSimpArgs false
set_option maxRecDepth 100000 in
set_option maxHeartbeats 4000000 in
theorem evaluate_any (w0 : World) (g vb : Nat) (a : Option Addr) (len cap : Nat) (na : Option Addr) (nlen ncap N : Nat) (l : List ExpR) (names : List BindR) (hc : checkB l = true) (hnl : nlen ≤ 9223372036854775807) (hnn : Hid (names.length = nlen)) (hbn : BndAt w0 na names) (i : Nat) (hi : i < l.length) (hok : (l[i]'hi).Ok)
    (IH : ∀ j, j < i → ∀ W, EvS w0 W g vb a len cap na nlen ncap N l names → Calls Tryz.prog 21 #[.pointer (some ⟨g, 0, none⟩), .int .i64 j] W (EvP w0 W g vb a len cap na nlen ncap N l names (wrt l names j)))
    (w : World) (hs : EvS w0 w g vb a len cap na nlen ncap N l names) :
    Calls Tryz.prog 31 #[.pointer (some ⟨g, 0, none⟩), .agg #[.string (l[i]'hi).op, .string (l[i]'hi).name, .int .u64 (l[i]'hi).n, .int .i64 (l[i]'hi).l, .int .i64 (l[i]'hi).r]] w (EvP w0 w g vb a len cap na nlen ncap N l names (wrt l names i)) := by
  have hit := check_item hc hi
  have hW : wrt l names i = oneW l[i] (tabW l names i) names := by
    unfold wrt
    rw [show l.getD i ⟨nilS, nilS, 0, 0, 0⟩ = l[i] from by rw [List.getD_eq_getElem?_getD, List.getElem?_eq_getElem hi]; rfl]
  unfold oneW at hW
  obtain ⟨⟨o, nm, n, x, y⟩, hx⟩ : ∃ q, l[i] = q := ⟨_, rfl⟩
  rw [hx] at hit hW hok
  simp only [hx]
  simp only at hW
  obtain ⟨v0, v1, v2, v3, v4⟩ := hok
  simp only at v0 v1 v2 v3 v4
  have HS := hid hs
  have HA := hid (Has.new w 42 #[.string o, .string nm, .int .u64 n, .int .i64 x, .int .i64 y])
  have HB := hid ((Bw.refl w).alloc (.cells #[.string o, .string nm, .int .u64 n, .int .i64 x, .int .i64 y] 42))
  have HC := hid hc
  have HI := hid hi
  clear hs
  by_cases c0 : nm = ⟨#[]⟩
  · rw [if_neg (show ¬ nm ≠ nilS from fun h => h c0)] at hW
    by_cases c1 : o = ⟨#[]⟩
    · rw [if_pos (show o = nilS from c1)] at hW
      have HW := hid hW
      clear hW hit
      subst c0 c1
      go_enter Tryz.func31, Tryz.ntmps31
      go_wp2
      go_returns
      exact ⟨by rw [HW.out]; rfl, HS.out.later HB.out, Keeps.of_bw HB.out⟩
    · have t1 := toList_ne o c1
      have t2 : (o.toList == nilS.toList) = false := str_ne c1
      rw [if_neg (show ¬ o = nilS from c1)] at hW
      unfold itemB leafB operB at hit
      simp only [Bool.or_eq_true, Bool.and_eq_true, decide_eq_true_eq] at hit
      rcases hit with ⟨⟨⟨h1, _⟩, _⟩, _⟩ | ⟨⟨⟨⟨⟨⟨q1, q2⟩, q3⟩, h1⟩, h2⟩, h3⟩, h4⟩
      · exact absurd h1 c1
      · clear q1 q2 q3
        obtain ⟨x, rfl⟩ := Int.eq_ofNat_of_zero_le h1
        obtain ⟨y, rfl⟩ := Int.eq_ofNat_of_zero_le h3
        rw [Int.toNat_natCast, Int.toNat_natCast, tabW_get l names i x (by omega), tabW_get l names i y (by omega)] at hW
        have HIx := hid (IH x (by omega))
        have HIy := hid (IH y (by omega))
        have hlx : (wrt l names x).1 ≤ mostN := wrt_le HC.out (x + 1) x (by omega) (by have := HI.out; omega)
        have hly : (wrt l names y).1 ≤ mostN := wrt_le HC.out (y + 1) y (by omega) (by have := HI.out; omega)
        have HLx := hid hlx
        have HLy := hid hly
        clear hlx hly IH h1 h2 h3 h4
        generalize hpx : wrt l names x = px at *
        generalize hpy : wrt l names y = py at *
        obtain ⟨ax, ex⟩ := px
        obtain ⟨ay, ey⟩ := py
        simp only at hW
        have HWW := hid hW
        clear hW
        have HAP := hid (fun W => apply_any o ax ay HLx.out HLy.out W)
        subst c0
        go_enter Tryz.func31, Tryz.ntmps31
        go_wp2_with fail
        refine (HIx.out _ (HS.out.later HB.out)).mono ?_
        rintro e w2 ⟨rfl, hs2, hk2⟩
        have HS2 := hid hs2
        have HK2 := hid hk2
        have HA2 := hid (hk2.has HA.out (show ¬ w.heap.size = vb from by have := HS.out.lt; omega))
        clear hs2 hk2
        have b0 := HA2.out.cell 0
        have b1 := HA2.out.cell 1
        have b2 := HA2.out.cell 2
        have b3 := HA2.out.cell 3
        have b4 := HA2.out.cell 4
        simp at b0 b1 b2 b3 b4
        by_cases d0 : ex = 0
        · subst d0
          have HW2 := hid (HWW.out.trans (if_neg (by intro h; exact h rfl)))
          go_wp2_with fail
          refine (HIy.out _ HS2.out).mono ?_
          rintro e w3 ⟨rfl, hs3, hk3⟩
          have HS3 := hid hs3
          have HK3 := hid hk3
          have HA3 := hid (hk3.has HA2.out (show ¬ w.heap.size = vb from by have := HS.out.lt; omega))
          clear hs3 hk3
          have d0 := HA3.out.cell 0
          have d1 := HA3.out.cell 1
          have d2 := HA3.out.cell 2
          have d3 := HA3.out.cell 3
          have d4 := HA3.out.cell 4
          simp at d0 d1 d2 d3 d4
          have HKK := hid ((Keeps.of_bw HB.out).trans (HK2.out.trans HK3.out))
          by_cases e0 : ey = 0
          · subst e0
            have HW3 := hid (HW2.out.trans (if_neg (by intro h; exact h rfl)))
            go_wp2_with fail
            refine (HAP.out _).mono ?_
            rintro e w4 ⟨hap, hb4⟩
            have HB4 := hid hb4
            clear hb4
            rcases hap with ⟨m, hm, rfl⟩ | ⟨hm, m, rfl⟩
            · have HW4 := hid (show wrt l names i = (m, 0) from HW3.out.trans (by rw [hm]))
              go_wp2
              go_returns
              exact ⟨by rw [HW4.out]; rfl, HS3.out.later HB4.out, HKK.out.trans (Keeps.of_bw HB4.out)⟩
            · have HW4 := hid (show wrt l names i = (0, 3) from HW3.out.trans (by rw [hm]))
              go_wp2
              go_returns
              exact ⟨by rw [HW4.out]; rfl, HS3.out.later HB4.out, HKK.out.trans (Keeps.of_bw HB4.out)⟩
          · have te : (ey != 0) = true := by simpa using e0
            have HW3 := hid (HW2.out.trans (if_pos e0))
            go_wp2
            go_returns
            exact ⟨by rw [HW3.out]; rfl, HS3.out, HKK.out⟩
        · have te : (ex != 0) = true := by simpa using d0
          have HW2 := hid (HWW.out.trans (if_pos d0))
          go_wp2
          go_returns
          exact ⟨by rw [HW2.out]; rfl, HS2.out, (Keeps.of_bw HB.out).trans HK2.out⟩
  · rw [if_pos (show nm ≠ nilS from c0)] at hW
    have HW := hid hW
    clear hW hit
    have t0 := toList_ne nm c0
    have HE := hid (HS.out.later HB.out)
    have g0 := HE.out.ev.cell 1
    simp at g0
    have HF := hid (fun W (h : Bw w0 W) => find_any na nlen ncap hnl names hnn nm W (hbn.below h))
    have HB0 := hid (HS.out.bw.trans HB.out)
    go_enter Tryz.func31, Tryz.ntmps31
    go_wp2_with fail
    go_region_with (go_at_call 44; refine (HF.out _ (HB0.out.drewN 1)).mono ?_; rintro e w2 ⟨rfl, hb2⟩; have HB2 := hid hb2; clear hb2)
    all_goals
      go_wp2
      go_returns
      exact ⟨by rw [HW.out]; rfl, HS.out.later ((HB.out.drewN 1).trans HB2.out), Keeps.of_bw ((HB.out.drewN 1).trans HB2.out)⟩
end Go.Proofs.YtlilmidffcmkjaaGreatDoor

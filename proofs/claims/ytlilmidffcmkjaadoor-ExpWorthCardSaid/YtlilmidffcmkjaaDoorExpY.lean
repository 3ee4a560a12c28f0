/- What one is worth, where those ahead are known (the document's; contract of the function). -/
import Derived.Test.YtlilmidffcmkjaaDoorExpX
import Derived.Test.YtlilmidffcmkjaaDoorExpV
import Derived.Deep.QuietTactic
namespace Go.Proofs.YtlilmidffcmkjaaDoor
open Go.RowKit
set_option linter.unusedVariables false
set_option linter.unusedSimpArgs false
/-- The first k values and errors, in memory. -/
def TabAt (w : World) (va ea N : Nat) (l : List ExpR) (names : List BindR) (k : Nat) : Prop :=
  ∀ j, j < k → w.cell? ⟨va, j, none⟩ = some (.int .u64 ((wrt l names j).1 : Nat)) ∧ w.cell? ⟨ea, j, none⟩ = some (.int .i64 (wrt l names j).2)
set_option maxRecDepth 100000 in
set_option maxHeartbeats 8000000 in
theorem rvalue_any (va ea N : Nat) (na : Option Addr) (nlen ncap : Nat) (l : List ExpR) (names : List BindR) (hc : checkB l = true) (hnl : nlen ≤ 9223372036854775807) (hnn : Hid (names.length = nlen)) (i : Nat) (hi : i < l.length) (hok : (l[i]'hi).Ok) (hiN : i ≤ N) (w : World) (hva : va < w.heap.size) (hea : ea < w.heap.size) (ht : TabAt w va ea N l names i) (hbn : BndAt w na names) :
    Calls Tryd.prog 28 #[.agg #[.string (l[i]'hi).op, .string (l[i]'hi).name, .int .u64 (l[i]'hi).n, .int .i64 (l[i]'hi).l, .int .i64 (l[i]'hi).r], .slice (some ⟨va, 0, none⟩) N N, .slice (some ⟨ea, 0, none⟩) N N, .slice na nlen ncap] w fun e w' => e = .returned (.tuple #[.int .u64 ((wrt l names i).1 : Nat), .int .i64 (wrt l names i).2]) ∧ Bw w w' := by
  have hit := check_item hc hi
  have hW : wrt l names i = oneW l[i] (tabW l names i) names := by
    unfold wrt
    rw [show l.getD i ⟨nilS, nilS, 0, 0, 0⟩ = l[i] from by rw [List.getD_eq_getElem?_getD, List.getElem?_eq_getElem hi]; rfl]
  unfold oneW at hW
  obtain ⟨⟨o, nm, n, x, y⟩, hx⟩ : ∃ q, l[i] = q := ⟨_, rfl⟩
  rw [hx] at hit hW hok
  simp only [hx]
  simp only at hW
  obtain ⟨v0, v1, v2, v3, v4⟩ := hok
  simp only at v0 v1 v2 v3 v4
  have HA := hid (Has.new w 42 #[.string o, .string nm, .int .u64 n, .int .i64 x, .int .i64 y])
  have HB := hid ((Bw.refl w).alloc (.cells #[.string o, .string nm, .int .u64 n, .int .i64 x, .int .i64 y] 42))
  have HC := hid hc
  have HI := hid hi
  unfold itemB leafB operB at hit
  simp only [Bool.or_eq_true, Bool.and_eq_true, decide_eq_true_eq] at hit
  by_cases c1 : o = ⟨#[]⟩
  · have hlo : ¬ 0 < lvlOf o := by rw [c1]; decide
    by_cases c0 : nm = ⟨#[]⟩
    · rw [if_neg (show ¬ nm ≠ nilS from fun h => h c0), if_pos (show o = nilS from c1)] at hW
      have HW := hid hW
      clear hW hit hlo ht hbn
      subst c0 c1
      go_enter Tryd.func28, Tryd.ntmps28
      go_wp2
      go_returns
      exact ⟨by rw [HW.out]; rfl, HB.out⟩
    · have t0 := toList_ne nm c0
      have t00 : (nm.toList == nilS.toList) = false := str_ne c0
      rw [if_pos (show nm ≠ nilS from c0)] at hW
      have HW := hid hW
      have HBN := hid hbn
      clear hW hit hlo ht hbn
      subst c1
      go_enter Tryd.func28, Tryd.ntmps28
      go_wp2
      go_loopw [10] (fun i wr => ∃ k : Nat, k ≤ nlen ∧ i = .int .i64 k ∧ Hid (findR (names.drop k) nm = findR names nm) ∧ Bw (w.alloc (.cells #[.string ⟨#[]⟩, .string nm, .int .u64 n, .int .i64 x, .int .i64 y] 42)) wr) (fun i _ => nlen - (intOf i).toNat)
      case atStart => exact ⟨0, Nat.zero_le _, rfl, hid rfl, Bw.refl _⟩
      case round =>
        rename World => wr
        obtain ⟨k, hk, rfl, HF, hb⟩ := hrel
        have HBR := hid hb
        have HAR := hid (hb.has HA.out)
        clear hb
        have b1 := HAR.out.cell 1
        simp at b1
        by_cases hlt : k < nlen
        · have hkl : k < names.length := by rw [hnn.out]; exact hlt
          have hk1 : (k : Int) < nlen := by omega
          obtain ⟨b, off, rfl, hbb, p0, p1, hv⟩ := HBN.out.below (HB.out.trans HBR.out) k hkl
          have hnx := findR_next hkl nm
          obtain ⟨⟨nx, nn⟩, hx2⟩ : ∃ q, names[k] = q := ⟨_, rfl⟩
          rw [hx2] at p0 p1 hv hnx
          simp only at p0 p1
          obtain ⟨w0, w1⟩ := hv
          simp only at w0 w1
          rw [HF.out] at hnx
          simp only at hnx
          clear hx2 hkl hbb
          by_cases h0 : nx = nm
          · by_cases h1 : nn ≤ mostN
            · have HN := hid (show findR names nm = (nn, 0) from hnx.trans (by rw [if_pos h0, if_pos h1]))
              clear hnx
              have g1 : ¬ (4611686018427387904 : Int) < (nn : Nat) := by rw [mostN_val] at h1; omega
              subst h0
              go_wp2
              go_region
              go_wp2
              go_returns
              exact ⟨by rw [HW.out, HN.out]; rfl, HB.out.trans (HBR.out.drewN 1)⟩
            · have HN := hid (show findR names nm = (0, 3) from hnx.trans (by rw [if_pos h0, if_neg h1]))
              clear hnx
              have g1 : (4611686018427387904 : Int) < (nn : Nat) := by rw [mostN_val] at h1; omega
              subst h0
              go_wp2
              go_region
              go_wp2
              go_returns
              exact ⟨by rw [HW.out, HN.out]; rfl, HB.out.trans (HBR.out.drewN 1)⟩
          · rw [if_neg h0] at hnx
            have HN := hid hnx.symm
            clear hnx
            have t1 := str_ne h0
            go_wp2
            go_region
            go_wp2
            exact ⟨⟨k + 1, by omega, by go_num, HN, HBR.out.drewN 1⟩, by simp [intOf]; omega⟩
        · have hk0 : k = nlen := by omega
          subst hk0
          have HE := hid (HF.out.symm.trans (findR_end (by rw [hnn.out]; exact Nat.le_refl _) nm))
          go_wp2
          go_returns
          exact ⟨by rw [HW.out, HE.out]; rfl, HB.out.trans HBR.out⟩
  · have t1 := toList_ne o c1
    have t2 : (o.toList == nilS.toList) = false := str_ne c1
    rcases hit with ⟨⟨⟨h1, _⟩, _⟩, _⟩ | ⟨⟨⟨⟨⟨⟨q1, q2⟩, q3⟩, h1⟩, h2⟩, h3⟩, h4⟩
    · exact absurd h1 c1
    · have c0 : nm = ⟨#[]⟩ := q2
      rw [if_neg (show ¬ nm ≠ nilS from fun h => h c0), if_neg (show ¬ o = nilS from c1)] at hW
      have HLV := hid q1
      clear q1 q2 q3
      obtain ⟨x, rfl⟩ := Int.eq_ofNat_of_zero_le h1
      obtain ⟨y, rfl⟩ := Int.eq_ofNat_of_zero_le h3
      rw [Int.toNat_natCast, Int.toNat_natCast, tabW_get l names i x (by omega), tabW_get l names i y (by omega)] at hW
      have hlx : (wrt l names x).1 ≤ mostN := wrt_le HC.out (x + 1) x (by omega) (by have := HI.out; omega)
      have hly : (wrt l names y).1 ≤ mostN := wrt_le HC.out (y + 1) y (by omega) (by have := HI.out; omega)
      have HLx := hid hlx
      have HLy := hid hly
      obtain ⟨p0, p1⟩ := ht x (by omega)
      obtain ⟨s0, s1⟩ := ht y (by omega)
      have p0 := (Below.cell HB.out (p := ⟨va, x, none⟩) hva).trans p0
      have p1 := (Below.cell HB.out (p := ⟨ea, x, none⟩) hea).trans p1
      have s0 := (Below.cell HB.out (p := ⟨va, y, none⟩) hva).trans s0
      have s1 := (Below.cell HB.out (p := ⟨ea, y, none⟩) hea).trans s1
      have i1 : (x : Int) < N := by omega
      have i2 : (y : Int) < N := by omega
      clear hlx hly ht hbn h1 h2 h3 h4 hva hea
      generalize hpx : wrt l names x = px at *
      generalize hpy : wrt l names y = py at *
      obtain ⟨ax, ex⟩ := px
      obtain ⟨ay, ey⟩ := py
      simp only at hW p0 p1 s0 s1
      have HWW := hid hW
      clear hW
      have HAP := hid (fun W => rapply_any o ax ay HLx.out HLy.out HLV.out W)
      subst c0
      by_cases d0 : ex = 0
      · subst d0
        have HW2 := hid (HWW.out.trans (if_neg (by intro h; exact h rfl)))
        by_cases e0 : ey = 0
        · subst e0
          have HW3 := hid (HW2.out.trans (if_neg (by intro h; exact h rfl)))
          have HW4 := hid (show wrt l names i = appV (applyO o ax ay) from HW3.out.trans (by cases applyO o ax ay <;> rfl))
          go_enter Tryd.func28, Tryd.ntmps28
          go_wp2_with fail
          go_quiet ((go_at_call 38; exact Calls.quiet_of_same (HAP.out _)))
          go_wp2
          go_returns
          exact ⟨by rw [HW4.out]; rfl, HB.out.drewN _⟩
        · have te : (ey != 0) = true := by simpa using e0
          have HW3 := hid (HW2.out.trans (if_pos e0))
          go_enter Tryd.func28, Tryd.ntmps28
          go_wp2
          go_region
          go_wp2
          go_returns
          exact ⟨by rw [HW3.out]; rfl, HB.out.drewN 1⟩
      · have te : (ex != 0) = true := by simpa using d0
        have HW2 := hid (HWW.out.trans (if_pos d0))
        go_enter Tryd.func28, Tryd.ntmps28
        go_wp2
        go_region
        go_wp2
        go_returns
        exact ⟨by rw [HW2.out]; rfl, HB.out.drewN 1⟩
end Go.Proofs.YtlilmidffcmkjaaDoor

/- Whether a chunk is one more, a sound's widths, whether all are more (contracts of the functions). -/
import Derived.Test.YtgkgimfdbkpbdaaDoorWavC
import Derived.Test.YtgkgimfdbkpbdaaDoorWavS
import Derived.IntWalk
namespace Go.Proofs.YtgkgimfdbkpbdaaDoor
open Go.RowKit
set_option linter.unusedVariables false
set_option linter.unusedSimpArgs false
theorem ba_loop (n : Nat) : ∀ (d : ByteArray) (i : Nat) (r : List UInt8), d.size - i = n → ByteArray.toList.loop d i r = r.reverse ++ d.data.toList.drop i := by
  induction n with
  | zero =>
    intro d i r h
    have hl : d.data.toList.length = d.size := by simp
    rw [ByteArray.toList.loop, if_neg (by omega), List.drop_of_length_le (by omega), List.append_nil]
  | succ n ih =>
    intro d i r h
    have hl : d.data.toList.length = d.size := by simp
    rw [ByteArray.toList.loop, if_pos (by omega), ih d (i + 1) _ (by omega), List.reverse_cons, List.append_assoc, List.drop_eq_getElem_cons (i := i) (by omega)]
    congr 2
    show [d.get! i] ++ _ = _
    have : d.get! i = d.data.toList[i]'(by omega) := by
      have hi : i < d.data.size := by have : d.data.size = d.size := rfl; omega
      show d.data[i]! = _
      rw [getElem!_pos d.data i hi]
      simp
    rw [this]
    rfl
theorem ba_toList (d : ByteArray) : d.toList = d.data.toList := by
  unfold ByteArray.toList
  rw [ba_loop _ d 0 [] rfl]
  simp
theorem str_ne {a b : ByteArray} (h : a ≠ b) : (a.toList == b.toList) = false := by
  rw [beq_eq_false_iff_ne]
  intro e
  rw [ba_toList, ba_toList] at e
  exact h (ba_ext e)
theorem str_nl {a : ByteArray} {x : Array UInt8} (h : a ≠ ⟨x⟩) : (a.toList == x.toList) = false := by
  have := str_ne h
  rw [ba_toList ⟨x⟩] at this
  exact this
set_option maxHeartbeats 400000 in
theorem isBits_any (n : Int) (w : World) :
    Calls Tryd.prog 52 #[.int .i64 n] w fun e w' => e = .returned (.bool (bitsB n)) ∧ w' = w := by
  go_enter Tryd.func52, Tryd.ntmps52
  go_wp2
  all_goals (go_ret; refine ⟨ret_bool ?_, rfl⟩; rw [Bool.eq_iff_iff]; simp [bitsB]; try omega)
set_option maxHeartbeats 1000000 in
theorem frameWidth_any (c r b : Nat) (hc : c ≤ 16) (hb : b ≤ 32) (x y : Value) (w : World) :
    Calls Tryd.prog 53 #[.agg #[.int .i64 c, .int .i64 r, .int .i64 b, x, y]] w fun e w' => e = .returned (.int .i64 (c * b / 8 : Nat)) ∧ Bw w w' := by
  have hcb : c * b ≤ 16 * 32 := Nat.mul_le_mul hc hb
  have HCB := hid (show ((c : Int) * b) = ((c * b : Nat) : Int) by simp)
  obtain ⟨q, hq⟩ : ∃ q, c * b = q := ⟨_, rfl⟩
  rw [hq] at hcb HCB ⊢
  have hm : IntKind.i64.wrap ((c : Int) * b) = q := by rw [HCB.out]; exact IntWalk.i64_in _ (by omega)
  clear hq
  have HA := hid ((Bw.refl w).alloc (.cells #[.int .i64 c, .int .i64 r, .int .i64 b, x, y] 34))
  go_enter Tryd.func53, Tryd.ntmps53
  go_wp2
  go_returns
  exact ⟨by first | rfl | (congr 2; go_num), HA.out⟩
set_option maxRecDepth 100000 in
set_option maxHeartbeats 1000000 in
theorem isMore_any (t d : ByteArray) (ht : t.size ≤ 9223372036854775807) (w : World) :
    Calls Tryd.prog 56 #[.agg #[.string t, .string d]] w fun e w' => e = .returned (.bool (moreB ⟨t, d⟩)) ∧ Bw w w' := by
  have HT := hid (fun W => isType_any t ht W)
  have HA := hid ((Bw.refl w).alloc (.cells #[.string t, .string d] 42))
  have HN := hid (Has.new w 42 #[.string t, .string d])
  obtain ⟨g, hg⟩ : ∃ g, w.heap.size = g := ⟨_, rfl⟩
  rw [hg] at HN
  have HM := hid (show moreB ⟨t, d⟩ = (typB t && decide (t ≠ fmtT) && decide (t ≠ dataT)) from rfl)
  obtain ⟨R, hR⟩ : ∃ R, moreB ⟨t, d⟩ = R := ⟨_, rfl⟩
  rw [hR] at HM ⊢
  clear hR
  cases hb : typB t with
  | false =>
    rw [hb] at HT HM
    have HV := hid (show R = false from by rw [HM.out]; rfl)
    go_enter Tryd.func56, Tryd.ntmps56
    go_wp2_with fail
    refine (HT.out _).mono ?_
    rintro e w2 ⟨rfl, hb2⟩
    have HB2 := hid (HA.out.trans hb2)
    go_wp2
    go_returns
    exact ⟨by rw [HV.out]; rfl, HB2.out⟩
  | true =>
    rw [hb] at HT HM
    by_cases h1 : t = fmtT
    · have HV := hid (show R = false from by rw [HM.out, h1]; rfl)
      unfold fmtT at h1
      subst h1
      go_enter Tryd.func56, Tryd.ntmps56
      go_wp2_with fail
      generalize w.alloc (.cells #[.string _, .string d] 42) = w1 at *
      refine (HT.out _).mono ?_
      rintro e w2 ⟨rfl, hb2⟩
      have HB2 := hid (HA.out.trans hb2)
      have HN2 := hid (hb2.has HN.out)
      have n0 := HN2.out.cell 0
      simp at n0
      go_wp2
      go_returns
      exact ⟨by rw [HV.out]; rfl, HB2.out⟩
    · by_cases h2 : t = dataT
      · have HV := hid (show R = false from by rw [HM.out, h2]; rfl)
        unfold dataT at h2
        subst h2
        go_enter Tryd.func56, Tryd.ntmps56
        go_wp2_with fail
        generalize w.alloc (.cells #[.string _, .string d] 42) = w1 at *
        refine (HT.out _).mono ?_
        rintro e w2 ⟨rfl, hb2⟩
        have HB2 := hid (HA.out.trans hb2)
        have HN2 := hid (hb2.has HN.out)
        have n0 := HN2.out.cell 0
        simp at n0
        go_wp2
        go_returns
        exact ⟨by rw [HV.out]; rfl, HB2.out⟩
      · have HV := hid (show R = true from by rw [HM.out, decide_eq_true h1, decide_eq_true h2]; rfl)
        have t1 := str_nl h1
        have t2 := str_nl h2
        go_enter Tryd.func56, Tryd.ntmps56
        go_wp2_with fail
        generalize w.alloc (.cells #[.string t, .string d] 42) = w1 at *
        refine (HT.out _).mono ?_
        rintro e w2 ⟨rfl, hb2⟩
        have HB2 := hid (HA.out.trans hb2)
        have HN2 := hid (hb2.has HN.out)
        have n0 := HN2.out.cell 0
        simp at n0
        go_wp2
        go_returns
        exact ⟨by rw [HV.out]; rfl, HB2.out⟩
set_option maxRecDepth 100000 in
set_option maxHeartbeats 1000000 in
theorem valid1_any (t d : ByteArray) (ht : t.size ≤ 9223372036854775807) (w : World) :
    Calls Tryd.prog 55 #[.agg #[.string t, .string d]] w fun e w' => e = .returned (.bool (!moreB ⟨t, d⟩)) ∧ Bw w w' := by
  have HT := hid (fun W => isMore_any t d ht W)
  have HA := hid ((Bw.refl w).alloc (.cells #[.string t, .string d] 42))
  obtain ⟨R, hR⟩ : ∃ R, moreB ⟨t, d⟩ = R := ⟨_, rfl⟩
  rw [hR] at HT ⊢
  clear hR
  go_enter Tryd.func55, Tryd.ntmps55
  go_wp2_with fail
  refine (HT.out _).mono ?_
  rintro e w2 ⟨rfl, hb2⟩
  have HB2 := hid (HA.out.trans hb2)
  go_wp2
  go_returns
  exact ⟨rfl, HB2.out⟩
set_option maxRecDepth 100000 in
set_option maxHeartbeats 2000000 in
theorem index_any (a : Option Addr) (len c : Nat) (hlen : len ≤ 9223372036854775807) (l : List ChkR) (hll : Hid (l.length = len)) (w : World) (ha : ChkAt w a l) :
    Calls Tryd.prog 66 #[.slice a len c, .func (.func 55) #[] #[]] w fun e w' => (∃ k : Int, e = .returned (.int .i64 k) ∧ decide (0 ≤ k) = !(l.all moreB)) ∧ Bw w w' := by
  have HA := hid ha
  clear ha
  go_enter Tryd.func66, Tryd.ntmps66
  go_wp2
  go_loopw [8] (fun vi wr => ∃ k : Nat, k ≤ len ∧ vi = .int .i64 k ∧ Hid (∀ i (hi : i < l.length), i < k → moreB l[i] = true) ∧ Bw w wr) (fun vi _ => len - (intOf vi).toNat)
  case atStart => exact ⟨0, Nat.zero_le _, rfl, hid (fun i hi h => absurd h (Nat.not_lt_zero i)), Bw.refl _⟩
  case round =>
    rename World => wr
    obtain ⟨k, hk, rfl, HR, hw⟩ := hrel
    have HW := hid hw
    by_cases hlt : k < len
    · have hk1 : (k : Int) < len := by omega
      obtain ⟨b1, o1, rfl, hb1, p0, p1, hok⟩ := HA.out.below hw k (by rw [hll.out]; exact hlt)
      clear hw
      have hkl : k < l.length := by rw [hll.out]; exact hlt
      have HV := hid (fun W => valid1_any (l[k]'hkl).typ (l[k]'hkl).dat hok.1 W)
      clear hok
      cases hm : moreB (l[k]'hkl) with
      | true =>
        have HN := hid (show ∀ i (hi : i < l.length), i < k + 1 → moreB l[i] = true from fun i hi hik => by
          by_cases e : i = k
          · subst e; exact hm
          · exact HR.out i hi (by omega))
        have HV2 := hid (fun W => (HV.out W).mono (fun e W' h => (show e = .returned (.bool false) ∧ Bw W W' from ⟨by rw [h.1, show (⟨(l[k]'hkl).typ, (l[k]'hkl).dat⟩ : ChkR) = l[k]'hkl from rfl, hm]; rfl, h.2⟩)))
        clear HV hm
        obtain ⟨x, hx⟩ : ∃ x, l[k]'hkl = x := ⟨_, rfl⟩
        rw [hx] at p0 p1 HV2
        clear hx
        go_wp2_with fail
        refine (HV2.out _).mono ?_
        rintro e w2 ⟨rfl, hb2⟩
        have HB2 := hid (HW.out.trans hb2)
        clear hb2
        go_wp2
        exact ⟨⟨k + 1, by omega, by go_num, HN, HB2.out⟩, by simp [intOf]; omega⟩
      | false =>
        have HAL := hid (show l.all moreB = false from by
          rw [List.all_eq_false]
          exact ⟨_, List.getElem_mem hkl, by rw [hm]; decide⟩)
        have HV2 := hid (fun W => (HV.out W).mono (fun e W' h => (show e = .returned (.bool true) ∧ Bw W W' from ⟨by rw [h.1, show (⟨(l[k]'hkl).typ, (l[k]'hkl).dat⟩ : ChkR) = l[k]'hkl from rfl, hm]; rfl, h.2⟩)))
        clear HV hm
        obtain ⟨x, hx⟩ : ∃ x, l[k]'hkl = x := ⟨_, rfl⟩
        rw [hx] at p0 p1 HV2
        clear hx
        go_wp2_with fail
        refine (HV2.out _).mono ?_
        rintro e w2 ⟨rfl, hb2⟩
        have HB2 := hid (HW.out.trans hb2)
        clear hb2
        go_wp2
        go_returns
        exact ⟨⟨k, rfl, by rw [HAL.out]; simp⟩, HB2.out⟩
    · obtain rfl : k = len := by omega
      have HAL := hid (show l.all moreB = true from by
        rw [List.all_eq_true]
        intro c hc
        obtain ⟨i, hi, rfl⟩ := List.getElem_of_mem hc
        exact HR.out i hi (by rw [← hll.out]; exact hi))
      go_wp2
      go_returns
      exact ⟨⟨-1, rfl, by rw [HAL.out]; rfl⟩, HW.out⟩
set_option maxRecDepth 100000 in
set_option maxHeartbeats 2000000 in
theorem contains_any (a : Option Addr) (len c : Nat) (hlen : len ≤ 9223372036854775807) (l : List ChkR) (hll : Hid (l.length = len)) (w : World) (ha : ChkAt w a l) :
    Calls Tryd.prog 54 #[.slice a len c, .func (.func 55) #[] #[]] w fun e w' => e = .returned (.bool (!(l.all moreB))) ∧ Bw w w' := by
  have HI := hid (index_any a len c hlen l hll w ha)
  clear ha
  obtain ⟨R, hR⟩ : ∃ R, (!(l.all moreB)) = R := ⟨_, rfl⟩
  rw [hR] at HI ⊢
  clear hR
  go_enter Tryd.func54, Tryd.ntmps54
  go_wp2_with fail
  refine HI.out.mono ?_
  rintro e w2 ⟨⟨k, rfl, hk⟩, hb2⟩
  go_wp2
  go_returns
  exact ⟨by rw [← hk]; rfl, hb2⟩
end Go.Proofs.YtgkgimfdbkpbdaaDoor

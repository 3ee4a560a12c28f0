/- The sound that chunks hold: one fmt, one data behind it, others anywhere (contract of the function). -/
import Derived.Test.YtgkgimfdbkpbdaaDoorWavM
import Derived.Deep.RegionHeld3
import Derived.Deep.DeepCutAuto
namespace Go.Proofs.YtgkgimfdbkpbdaaDoor
open Go.RowKit Go.Maps
set_option linter.unusedVariables false
set_option linter.unusedSimpArgs false
/-- Which chunks are what. -/
structure Lay (m : SndR) (l : List ChkR) (pf pd : Nat) : Prop where
  lt : pf < pd
  len : pd < l.length
  fmt : ∀ h : pf < l.length, l[pf] = ⟨fmtT, fmtS m⟩
  dat : ∀ h : pd < l.length, l[pd] = ⟨dataT, m.frames⟩
  more : ∀ i (h : i < l.length), i ≠ pf → i ≠ pd → moreB l[i] = true
  all : l.filter moreB = m.more
theorem not_more_fmt (d : ByteArray) : moreB ⟨fmtT, d⟩ = false := by
  unfold moreB
  rw [decide_eq_false (show ¬ ((⟨fmtT, d⟩ : ChkR).typ ≠ fmtT) from fun h => h rfl), Bool.and_false, Bool.false_and]
theorem not_more_dat (d : ByteArray) : moreB ⟨dataT, d⟩ = false := by
  unfold moreB
  rw [decide_eq_false (show ¬ ((⟨dataT, d⟩ : ChkR).typ ≠ dataT) from fun h => h rfl), Bool.and_false]
theorem filt_more {l : List ChkR} {k : Nat} (hk : k < l.length) (h : moreB l[k] = true) : (l.take (k + 1)).filter moreB = (l.take k).filter moreB ++ [l[k]] := by
  rw [List.take_succ_eq_append_getElem hk, List.filter_append, List.filter_cons_of_pos h]
  rfl
theorem filt_same {l : List ChkR} {k : Nat} (hk : k < l.length) (h : moreB l[k] = false) : (l.take (k + 1)).filter moreB = (l.take k).filter moreB := by
  rw [List.take_succ_eq_append_getElem hk, List.filter_append, List.filter_cons_of_neg (by rw [h]; decide)]
  simp
def fpT (m : SndR) (pf k : Nat) : ByteArray := if pf < k then fmtS m else ⟨#[]⟩
def dpT (m : SndR) (pd k : Nat) : ByteArray := if pd < k then m.frames else ⟨#[]⟩
def cpN (p k : Nat) : Nat := if p < k then 1 else 0
theorem cp_same {p k : Nat} (h : k ≠ p) : cpN p (k + 1) = cpN p k := by unfold cpN; by_cases h1 : p < k; rw [if_pos h1, if_pos (by omega)]; rw [if_neg h1, if_neg (by omega)]
theorem cp_at (p : Nat) : cpN p p = 0 ∧ cpN p (p + 1) = 1 := ⟨if_neg (by omega), if_pos (by omega)⟩
theorem cp_in {p k : Nat} (h : p < k) : cpN p k = 1 := if_pos h
theorem fp_same {m : SndR} {p k : Nat} (h : k ≠ p) : fpT m p (k + 1) = fpT m p k := by unfold fpT; by_cases h1 : p < k; rw [if_pos h1, if_pos (by omega)]; rw [if_neg h1, if_neg (by omega)]
theorem dp_same {m : SndR} {p k : Nat} (h : k ≠ p) : dpT m p (k + 1) = dpT m p k := by unfold dpT; by_cases h1 : p < k; rw [if_pos h1, if_pos (by omega)]; rw [if_neg h1, if_neg (by omega)]
theorem fp_at (m : SndR) (p : Nat) : fpT m p (p + 1) = fmtS m := if_pos (by omega)
theorem dp_at (m : SndR) (p : Nat) : dpT m p (p + 1) = m.frames := if_pos (by omega)
set_option maxRecDepth 100000 in
set_option maxHeartbeats 8000000 in
theorem soundOf_any (m : SndR) (l : List ChkR) (pf pd : Nat) (hY : Lay m l pf pd) (hm : soundB m = true) (hfz : m.frames.size ≤ 100000) (hln : l.length ≤ 1000) (a : Option Addr) (len c : Nat) (hll : Hid (l.length = len)) (w : World) (ha : ChkAt w a l) (hw : WidAt w) :
    Calls Tryd.prog 39 #[.slice a len c] w fun e w' => ∃ a' c', e = .returned (.tuple #[sndV m a' m.more.length c', .bool true]) ∧ Bw w w' ∧ ChkAt w' a' m.more := by
  obtain ⟨i0, hinf, hz0, hz1, hz2⟩ := info_parts chkInfo
  have HY := hid hY
  have HA := hid ha
  have HWD := hid hw
  have hlen : len ≤ 1000 := by rw [← hll.out]; exact hln
  clear ha hw hY
  have HNA := hid (Has.new w 34 zeroS)
  obtain ⟨na, hna⟩ : ∃ na, w.heap.size = na := ⟨_, rfl⟩
  rw [hna] at HNA
  have HBA := hid ((Bw.refl w).alloc (.cells zeroS 34))
  unfold zeroS at HNA HBA
  have HNAE := hid hna
  have hmm := @run_makeMap Tryd.prog
  go_enter Tryd.func39, Tryd.ntmps39
  go_upto_region 3 with fail
  generalize w.alloc (.cells #[.int .i64 0, .int .i64 0, .int .i64 0, .string ⟨#[]⟩, .slice none 0 0] 34) = w1 at *
  have HMM := hid (CntAt.made w1)
  have HMB := hid (HBA.out.alloc (.map #[] 0))
  have HMN := hid (HNA.out.alloc (.map #[] 0))
  obtain ⟨mb, hmb⟩ : ∃ mb, w1.heap.size = mb := ⟨_, rfl⟩
  rw [hmb] at HMM
  go_upto_region 4 with fail
  generalize w1.alloc (.map #[] 0) = w2 at *
  clear hna
  have HMBE := hid (show w.heap.size ≤ mb by rw [← hmb]; exact HBA.out.size)
  clear hmb
  go_wp2
  go_loopw [4, 5, 6, 14] (fun vf vd vm vi wr => ∃ (k n : Nat), k ≤ len ∧ n ≤ k ∧ vi = .int .i64 k ∧ vf = .string (fpT m pf k) ∧ vd = .string (dpT m pd k) ∧ CntAt wr mb n (cpN pf k) (cpN pd k) ∧ wr.ownsRow w.heap.size 42 2 vm ((l.take k).filter moreB).length (chkCells ((l.take k).filter moreB)) ∧ Has wr na 34 #[.int .i64 0, .int .i64 0, .int .i64 0, .string ⟨#[]⟩, .slice none 0 0] ∧ Bw w wr) (fun _ _ _ vi _ => len - (intOf vi).toNat)
  case atStart => exact ⟨0, 0, Nat.zero_le _, Nat.le_refl _, rfl, rfl, rfl, HMM.out, World.ownsRow_nil _ _ _ _, HMN.out, HMB.out⟩
  case round =>
    rename World => wr
    obtain ⟨k, n, hk, hnk, rfl, rfl, rfl, hcnt, hrow, hna, hw⟩ := hrel
    have HW := hid hw
    have HC := hid hcnt
    have HROW := hid hrow
    have HNN := hid hna
    by_cases hlt : k < len
    · have hk1 : (k : Int) < len := by omega
      obtain ⟨b1, o1, rfl, hb1, p0, p1, hok⟩ := HA.out.below hw k (by rw [hll.out]; exact hlt)
      clear hw hcnt hrow hna
      have hkl : k < l.length := by rw [hll.out]; exact hlt
      have HOK := hid hok
      have HIM := hid (fun W => isMore_any (l[k]'hkl).typ (l[k]'hkl).dat hok.1 W)
      clear hok
      cases hmo : moreB (l[k]'hkl) with
      | true =>
        have hpf : k ≠ pf := fun e => by
          subst e
          rw [HY.out.fmt hkl, not_more_fmt] at hmo
          cases hmo
        have hpd : k ≠ pd := fun e => by
          subst e
          rw [HY.out.dat hkl, not_more_dat] at hmo
          cases hmo
        have HF := hid (filt_more hkl hmo)
        have HIM2 := hid (fun W => (HIM.out W).mono (fun e W' h => (show e = .returned (.bool true) ∧ Bw W W' from ⟨by rw [h.1, show (⟨(l[k]'hkl).typ, (l[k]'hkl).dat⟩ : ChkR) = l[k]'hkl from rfl, hmo], h.2⟩)))
        have HS := hid (show cpN pf (k + 1) = cpN pf k ∧ cpN pd (k + 1) = cpN pd k ∧ fpT m pf (k + 1) = fpT m pf k ∧ dpT m pd (k + 1) = dpT m pd k from ⟨cp_same hpf, cp_same hpd, fp_same hpf, dp_same hpd⟩)
        have hfl : ((l.take k).filter moreB).length ≤ k := Nat.le_trans (List.length_filter_le _ _) (List.length_take_le _ _)
        obtain ⟨mo, hmo'⟩ : ∃ mo, (l.take k).filter moreB = mo := ⟨_, rfl⟩
        rw [hmo'] at HF HROW hfl
        clear HIM hmo hpf hpd hmo'
        obtain ⟨x, hx⟩ : ∃ x, l[k]'hkl = x := ⟨_, rfl⟩
        rw [hx] at p0 p1 HIM2 HF
        clear hx
        obtain ⟨xt, xd⟩ := x
        simp only at p0 p1 HIM2
        obtain ⟨ao, cp, rfl⟩ := own_slice HROW.out
        have HB4 := hid (HW.out.alloc (.cells #[.string xt, .string xd] 42))
        have HX4 := hid (Has.new wr 42 #[.string xt, .string xd])
        have HAL := hid ((Bw.refl wr).alloc (.cells #[.string xt, .string xd] 42))
        obtain ⟨gx, hgx⟩ : ∃ gx, wr.heap.size = gx := ⟨_, rfl⟩
        rw [hgx] at HX4
        go_wp2_with fail
        generalize wr.alloc (.cells #[.string xt, .string xd] 42) = w4 at *
        clear hgx
        refine (HIM2.out _).mono ?_
        rintro e w5 ⟨rfl, hb5⟩
        have HB5 := hid (HB4.out.trans hb5)
        have HX5 := hid (hb5.has HX4.out)
        have HR5 := hid ((HAL.out.trans hb5).own HROW.out)
        have HC5 := hid (HC.out.bw (HAL.out.trans hb5))
        have HN5 := hid ((HAL.out.trans hb5).has HNN.out)
        clear hb5
        have x0 := HX5.out.cell 0
        have x1 := HX5.out.cell 1
        simp at x0 x1
        have hs5 := HB5.out.size
        go_wp2_with (at_builtin; refine wpList_append_own_at _ rfl _ _ 23 rfl w.heap.size 42 i0 (.agg #[.string ⟨#[]⟩, .string ⟨#[]⟩]) 2 32 Tryd.underlying23 hinf hz0 hz1 hz2 rfl (by decide) _ _ _ rfl (((Bw.refl w5).alloc (.cells #[.string xt, .string xd] 42)).own HR5.out) ⟨w5.heap.size, 0, none⟩ 1 1 [.string xt, .string xd] rfl rfl (own_two _ _ _ _) (by intro u hu; simp at hu; rcases hu with rfl | rfl <;> rfl) (by unfold maxLen; omega) (by omega) (by simp; omega) ?_; intro v7 w7 hown7 hgrow7 _ _; have HO7 := hid hown7; have HG7 := hid hgrow7; clear hown7 hgrow7)
        have HR6a := hid (((Bw.refl w5).alloc (.cells #[.string xt, .string xd] 42)).own HR5.out)
        have HB7 := hid (show Bw w w7 from Below.trans (HB5.out.alloc _) (own_grownJ HR6a.out HG7.out (by simp; omega)))
        have HN7 := hid (has_grown (HN5.out.alloc (.cells #[.string xt, .string xd] 42)) HG7.out (own_ne_has HR6a.out (HN5.out.alloc _) (by decide)))
        have HC7 := hid (show CntAt w7 mb n _ _ from (HC5.out.bw ((Bw.refl w5).alloc (.cells #[.string xt, .string xd] 42))).kept (HG7.out.block mb (Nat.lt_of_lt_of_le HC5.out.lt (by simp)) (fun e => by
          obtain ⟨cur, hcur⟩ := own_at HR6a.out e.symm
          obtain ⟨D, ⟨es, ck, h1, _⟩, _⟩ := HC5.out.bw ((Bw.refl w5).alloc (.cells #[.string xt, .string xd] 42))
          rw [h1] at hcur
          cases hcur)))
        refine ⟨⟨k + 1, n, by omega, by omega, by go_num, by rw [HS.out.2.2.1], by rw [HS.out.2.2.2], by rw [HS.out.1, HS.out.2.1]; exact HC7.out, ?_, HN7.out, HB7.out⟩, by simp [intOf]; omega⟩
        rw [HF.out, chkCells_snoc, List.length_append]
        exact HO7.out
      | false =>
        by_cases hpf : k = pf
        · subst hpf
          have HLK := hid (HY.out.fmt hkl)
          have HF := hid (filt_same hkl hmo)
          have HIM2 := hid (fun W => (HIM.out W).mono (fun e W' h => (show e = .returned (.bool false) ∧ Bw W W' from ⟨by rw [h.1, show (⟨(l[k]'hkl).typ, (l[k]'hkl).dat⟩ : ChkR) = l[k]'hkl from rfl, hmo], h.2⟩)))
          rw [HLK.out] at p0 p1 HIM2
          clear HIM hmo HLK HOK
          simp only at p0 p1 HIM2
          unfold fmtT at p0 HIM2
          have HP := HY.out.lt
          have HS := hid (show cpN k (k + 1) = 1 ∧ cpN pd (k + 1) = cpN pd k ∧ fpT m k (k + 1) = fmtS m ∧ dpT m pd (k + 1) = dpT m pd k from ⟨(cp_at k).2, cp_same (by omega), fp_at m k, dp_same (by omega)⟩)
          rw [(cp_at k).1] at HC
          obtain ⟨dt, hdt⟩ : ∃ dt, fmtS m = dt := ⟨_, rfl⟩
          have HDT := hid hdt
          rw [hdt] at p1 HIM2
          clear hdt
          have HB4 := hid (HW.out.alloc (.cells #[.string ⟨#[102, 109, 116, 32]⟩, .string dt] 42))
          have HX4 := hid (Has.new wr 42 #[.string ⟨#[102, 109, 116, 32]⟩, .string dt])
          have HAL := hid ((Bw.refl wr).alloc (.cells #[.string ⟨#[102, 109, 116, 32]⟩, .string dt] 42))
          obtain ⟨gx, hgx⟩ : ∃ gx, wr.heap.size = gx := ⟨_, rfl⟩
          rw [hgx] at HX4
          go_wp2_with fail
          generalize wr.alloc (.cells #[.string ⟨#[102, 109, 116, 32]⟩, .string dt] 42) = w4 at *
          clear hgx
          refine (HIM2.out _).mono ?_
          rintro e w5 ⟨rfl, hb5⟩
          have HB5 := hid (HB4.out.trans hb5)
          have HX5 := hid (hb5.has HX4.out)
          have HR5 := hid ((HAL.out.trans hb5).own HROW.out)
          have HC5 := hid (HC.out.bw (HAL.out.trans hb5))
          have HN5 := hid ((HAL.out.trans hb5).has HNN.out)
          clear hb5
          have x0 := HX5.out.cell 0
          have x1 := HX5.out.cell 1
          simp at x0 x1
          have hlk := HC5.out.lookF
          obtain ⟨w6, hrun, hc6, hg6⟩ := HC5.out.addF (by omega) 1 (by decide)
          have HC6 := hid hc6
          have HG6 := hid hg6
          have HRUN := hid hrun
          have HB6 := hid (show Bw w w6 from Below.trans HB5.out (own_grown (B := w.heap.size) HB5.out.size (fun b hb => by injection hb with hb; subst hb; exact HMBE.out) hg6))
          have HX6 := hid (has_grown HX5.out hg6 (fun e => by
            injection e with e
            obtain ⟨D, ⟨es, ck, h1, _⟩, _⟩ := HC5.out
            have h2 := HX5.out
            unfold Has at h2
            rw [← e, h1] at h2
            cases h2))
          have HN6 := hid (has_grown HN5.out hg6 (fun e => by
            injection e with e
            obtain ⟨D, ⟨es, ck, h1, _⟩, _⟩ := HC5.out
            have h2 := HN5.out
            unfold Has at h2
            rw [← e, h1] at h2
            cases h2))
          have HR6 := hid (own_keep HR5.out fun b hb => hg6.block b (own_lt HR5.out hb) (fun e => by
            injection e with e
            obtain ⟨D, ⟨es, ck, h1, _⟩, _⟩ := HC5.out
            obtain ⟨cur, hcur⟩ := own_at HR5.out hb
            rw [e, h1] at hcur
            cases hcur))
          clear hrun hc6 hg6
          have y0 := HX6.out.cell 0
          have y1 := HX6.out.cell 1
          simp at y0 y1
          have hlf := HC6.out.lookF
          go_wp2_with (at_mapUpdate; refine wpList_mapUpdate_run rfl _ _ _ _ rfl rfl rfl rfl HRUN.out ?_)
          exact ⟨⟨k + 1, n + 1, by omega, by omega, by go_num, by rw [HS.out.2.2.1, HDT.out], by rw [HS.out.2.2.2], by rw [HS.out.1, HS.out.2.1]; exact HC6.out, by rw [HF.out]; exact HR6.out, HN6.out, HB6.out⟩, by simp [intOf]; omega⟩
        · have hpd : k = pd := by
            rcases Nat.decEq k pd with h | h
            · have := HY.out.more k hkl hpf h
              rw [hmo] at this; cases this
            · exact h
          subst hpd
          have HLK := hid (HY.out.dat hkl)
          have HF := hid (filt_same hkl hmo)
          have HIM2 := hid (fun W => (HIM.out W).mono (fun e W' h => (show e = .returned (.bool false) ∧ Bw W W' from ⟨by rw [h.1, show (⟨(l[k]'hkl).typ, (l[k]'hkl).dat⟩ : ChkR) = l[k]'hkl from rfl, hmo], h.2⟩)))
          rw [HLK.out] at p0 p1 HIM2
          clear HIM hmo HLK HOK
          simp only at p0 p1 HIM2
          unfold dataT at p0 HIM2
          have HP := HY.out.lt
          have HS := hid (show cpN k (k + 1) = 1 ∧ cpN pf (k + 1) = 1 ∧ fpT m pf (k + 1) = fpT m pf k ∧ dpT m k (k + 1) = m.frames from ⟨(cp_at k).2, cp_in (by omega), fp_same (by omega), dp_at m k⟩)
          rw [(cp_at k).1, cp_in HP] at HC
          obtain ⟨dt, hdt⟩ : ∃ dt, m.frames = dt := ⟨_, rfl⟩
          have HDT := hid hdt
          rw [hdt] at p1 HIM2
          clear hdt
          have HB4 := hid (HW.out.alloc (.cells #[.string ⟨#[100, 97, 116, 97]⟩, .string dt] 42))
          have HX4 := hid (Has.new wr 42 #[.string ⟨#[100, 97, 116, 97]⟩, .string dt])
          have HAL := hid ((Bw.refl wr).alloc (.cells #[.string ⟨#[100, 97, 116, 97]⟩, .string dt] 42))
          obtain ⟨gx, hgx⟩ : ∃ gx, wr.heap.size = gx := ⟨_, rfl⟩
          rw [hgx] at HX4
          go_wp2_with fail
          generalize wr.alloc (.cells #[.string ⟨#[100, 97, 116, 97]⟩, .string dt] 42) = w4 at *
          clear hgx
          refine (HIM2.out _).mono ?_
          rintro e w5 ⟨rfl, hb5⟩
          have HB5 := hid (HB4.out.trans hb5)
          have HX5 := hid (hb5.has HX4.out)
          have HR5 := hid ((HAL.out.trans hb5).own HROW.out)
          have HC5 := hid (HC.out.bw (HAL.out.trans hb5))
          have HN5 := hid ((HAL.out.trans hb5).has HNN.out)
          clear hb5
          have x0 := HX5.out.cell 0
          have x1 := HX5.out.cell 1
          simp at x0 x1
          have hlk := HC5.out.lookD
          obtain ⟨w6, hrun, hc6, hg6⟩ := HC5.out.addD (by omega) 1 (by decide)
          have HC6 := hid hc6
          have HG6 := hid hg6
          have HRUN := hid hrun
          have HB6 := hid (show Bw w w6 from Below.trans HB5.out (own_grown (B := w.heap.size) HB5.out.size (fun b hb => by injection hb with hb; subst hb; exact HMBE.out) hg6))
          have HX6 := hid (has_grown HX5.out hg6 (fun e => by
            injection e with e
            obtain ⟨D, ⟨es, ck, h1, _⟩, _⟩ := HC5.out
            have h2 := HX5.out
            unfold Has at h2
            rw [← e, h1] at h2
            cases h2))
          have HN6 := hid (has_grown HN5.out hg6 (fun e => by
            injection e with e
            obtain ⟨D, ⟨es, ck, h1, _⟩, _⟩ := HC5.out
            have h2 := HN5.out
            unfold Has at h2
            rw [← e, h1] at h2
            cases h2))
          have HR6 := hid (own_keep HR5.out fun b hb => hg6.block b (own_lt HR5.out hb) (fun e => by
            injection e with e
            obtain ⟨D, ⟨es, ck, h1, _⟩, _⟩ := HC5.out
            obtain ⟨cur, hcur⟩ := own_at HR5.out hb
            rw [e, h1] at hcur
            cases hcur))
          clear hrun hc6 hg6
          have y0 := HX6.out.cell 0
          have y1 := HX6.out.cell 1
          simp at y0 y1
          have hlf := HC6.out.lookF
          go_wp2_with (at_mapUpdate; refine wpList_mapUpdate_run rfl _ _ _ _ rfl rfl rfl rfl HRUN.out ?_)
          exact ⟨⟨k + 1, n + 1, by omega, by omega, by go_num, by rw [HS.out.2.2.1], by rw [HS.out.2.2.2, HDT.out], by rw [HS.out.2.1, HS.out.1]; exact HC6.out, by rw [HF.out]; exact HR6.out, HN6.out, HB6.out⟩, by simp [intOf]; omega⟩
    · obtain rfl : k = len := by omega
      clear hw hcnt hrow hna
      have hkl : l.length = k := hll.out
      have hpl := HY.out.len
      have hpp := HY.out.lt
      have HS := hid (show fpT m pf k = fmtS m ∧ dpT m pd k = m.frames ∧ cpN pf k = 1 ∧ cpN pd k = 1 ∧ (l.take k).filter moreB = m.more from ⟨if_pos (by omega), if_pos (by omega), if_pos (by omega), if_pos (by omega), by rw [← hkl, List.take_length]; exact HY.out.all⟩)
      have hm2 := hm
      unfold soundB at hm2
      rw [Bool.and_eq_true, Bool.and_eq_true] at hm2
      obtain ⟨c', r', b', e1, e2, e3, hc1, hc2, hr1, hr2, hb⟩ := shape_nat hm2.1.1
      obtain ⟨hal0, hal1⟩ := alg_le hc2 hc1 hb
      have hra : r' * (c' * b' / 8) ≤ 16777216 * 64 := Nat.mul_le_mul hr2 hal1
      have HFS := hid (show fmtS m = fmtN c' r' b' from by unfold fmtS; rw [e1, e2, e3, Int.toNat_natCast, Int.toNat_natCast, Int.toNat_natCast])
      have HNUM := hid (show rfV (rfF (numsL (fmtN c' r' b'))) = rfV (c', r', b') from by
        rw [rfF_nums]
        obtain ⟨_, q2, q4, _, _, q14⟩ := fmt_nums (c := c') (r := r') (b := b') (by omega) (by omega) (by omega) (by omega) (by omega)
        rw [q2, q4, q14])
      have HRF := hid (fun W (hW : WidAt W) => readFormat_any (fmtN c' r' b') (fmtN_size _ _ _) W hW)
      rw [HNUM.out] at HRF
      unfold rfV at HRF
      simp only at HRF
      have HFO := hid (fun x y W (hW : WidAt W) => formatOf_any c' r' b' ⟨hc1, hc2⟩ ⟨hr1, hr2⟩ hb x y W hW)
      rw [HS.out.1, HS.out.2.1, HFS.out]
      rw [HS.out.2.2.1, HS.out.2.2.2.1] at HC
      rw [HS.out.2.2.2.2] at HROW
      obtain ⟨ao, cp, rfl⟩ := own_slice HROW.out
      have HOKM := hid (show ∀ x ∈ m.more, x.Ok from fun x hx => by
        rw [← HY.out.all] at hx
        obtain ⟨i, hi, rfl⟩ := List.getElem_of_mem (List.mem_filter.1 hx).1
        obtain ⟨_, _, _, _, _, _, h⟩ := HA.out i hi
        exact h)
      have hmn : m.more.length ≤ 1000 := by rw [← HY.out.all]; exact Nat.le_trans (List.length_filter_le _ _) hln
      have HVA := hid (fun W (ha : ChkAt W ao m.more) => isValid_any m hfz ao m.more.length cp (by omega) (hid rfl) W ha)
      rw [hm] at HVA
      have HFIN := hid (show ∀ v x q, sndV m v x q = .agg #[.int .i64 (c' : Nat), .int .i64 (r' : Nat), .int .i64 (b' : Nat), .string m.frames, .slice v x q] from fun v x q => by unfold sndV; rw [e1, e2, e3])
      unfold sndV at HVA
      rw [e1, e2, e3] at HVA
      obtain ⟨F, hF⟩ : ∃ F, fmtN c' r' b' = F := ⟨_, rfl⟩
      obtain ⟨fr, hfr⟩ : ∃ fr, m.frames = fr := ⟨_, rfl⟩
      obtain ⟨mo, hmo⟩ : ∃ mo, m.more = mo := ⟨_, rfl⟩
      rw [hF] at HRF HFO ⊢
      rw [hfr] at HVA HFIN ⊢
      rw [hmo] at HROW HOKM HVA hmn ⊢
      have HMO := hid hmo
      clear hm hm2 e1 e2 e3 hra HNUM HS HFS hF hfr hmo hpl hpp hkl
      go_wp2_with fail
      refine (HRF.out _ (HWD.out.bw HW.out)).mono ?_
      rintro e w5 ⟨rfl, hb5⟩
      have HB5 := hid (HW.out.trans hb5)
      have HC5 := hid (HC.out.bw hb5)
      have HR5 := hid (hb5.own HROW.out)
      have HN5 := hid (hb5.has HNN.out)
      clear hb5
      have HB6 := hid (HB5.out.alloc (.cells #[.int .i64 (c' : Nat), .int .i64 (r' : Nat), .int .i64 (b' : Nat), .string fr, .slice ao mo.length cp] 34))
      have HX6 := hid (Has.new w5 34 #[.int .i64 (c' : Nat), .int .i64 (r' : Nat), .int .i64 (b' : Nat), .string fr, .slice ao mo.length cp])
      have HAL := hid ((Bw.refl w5).alloc (.cells #[.int .i64 (c' : Nat), .int .i64 (r' : Nat), .int .i64 (b' : Nat), .string fr, .slice ao mo.length cp] 34))
      obtain ⟨gx, hgx⟩ : ∃ gx, w5.heap.size = gx := ⟨_, rfl⟩
      rw [hgx] at HX6
      go_upto_region 18 with fail
      generalize w5.alloc (.cells #[.int .i64 (c' : Nat), .int .i64 (r' : Nat), .int .i64 (b' : Nat), .string fr, .slice ao mo.length cp] 34) = w6 at *
      have HC6 := hid (HC5.out.bw HAL.out)
      have HR6 := hid (HAL.out.own HR5.out)
      have HN6 := hid (HAL.out.has HN5.out)
      clear hgx HC5 HR5 HN5 HB5
      have HNE := hid (show gx ≠ na ∧ mb ≠ na from by
        refine ⟨fun e => ?_, fun e => ?_⟩
        · have h1 := HX6.out
          have h2 := HN6.out
          unfold Has at h1 h2
          rw [e, h2] at h1
          injection h1 with h1
          injection h1 with h1
          have h3 := congrArg (fun x => x[0]?) h1
          have h4 : some (Value.int .i64 0) = some (Value.int .i64 (c' : Nat)) := h3
          injection h4 with h4
          injection h4 with _ h4
          omega
        · obtain ⟨D, ⟨es, ck, h1, _⟩, _⟩ := HC6.out
          have h2 := HN6.out
          unfold Has at h2
          rw [← e, h1] at h2
          cases h2)
      have HSK := hid (fun W (hW : Bw w6 W) => (show W.cell? ⟨gx, 0, none⟩ = some (.int .i64 (c' : Nat)) ∧ W.cell? ⟨gx, 1, none⟩ = some (.int .i64 (r' : Nat)) ∧ W.cell? ⟨gx, 2, none⟩ = some (.int .i64 (b' : Nat)) ∧ W.cell? ⟨gx, 3, none⟩ = some (.string fr) ∧ W.cell? ⟨gx, 4, none⟩ = some (.slice ao mo.length cp) ∧ (Instr.lookup 87 (.map (some mb)) (.string ⟨#[102, 109, 116, 32]⟩) false).run Tryd.prog W = .ok (.int .i64 1) W ∧ (Instr.lookup 87 (.map (some mb)) (.string ⟨#[100, 97, 116, 97]⟩) false).run Tryd.prog W = .ok (.int .i64 1) W from ⟨(hW.has HX6.out).cell 0, (hW.has HX6.out).cell 1, (hW.has HX6.out).cell 2, (hW.has HX6.out).cell 3, (hW.has HX6.out).cell 4, (HC6.out.bw hW).lookF, (HC6.out.bw hW).lookD⟩))
      have HBD := hid (show Bw w6 w6.drew from (Bw.refl w6).drewN 1)
      have HSF := hid (fun W (v0 v1 v2 v3 v4 : Value) (hW : Bw w6 W) => (show (fun W => W.cell? ⟨gx, 0, none⟩ = some (.int .i64 (c' : Nat)) ∧ W.cell? ⟨gx, 1, none⟩ = some (.int .i64 (r' : Nat)) ∧ W.cell? ⟨gx, 2, none⟩ = some (.int .i64 (b' : Nat)) ∧ W.cell? ⟨gx, 3, none⟩ = some (.string fr) ∧ W.cell? ⟨gx, 4, none⟩ = some (.slice ao mo.length cp) ∧ (Instr.lookup 87 (.map (some mb)) (.string ⟨#[102, 109, 116, 32]⟩) false).run Tryd.prog W = .ok (.int .i64 1) W ∧ (Instr.lookup 87 (.map (some mb)) (.string ⟨#[100, 97, 116, 97]⟩) false).run Tryd.prog W = .ok (.int .i64 1) W) (((((W.setCell ⟨na, 0, none⟩ v0).setCell ⟨na, 1, none⟩ v1).setCell ⟨na, 2, none⟩ v2).setCell ⟨na, 3, none⟩ v3).setCell ⟨na, 4, none⟩ v4) from by
        have hx := (((((hW.has HX6.out).far (p := ⟨na, 0, none⟩) HNE.out.1 v0).far (p := ⟨na, 1, none⟩) HNE.out.1 v1).far (p := ⟨na, 2, none⟩) HNE.out.1 v2).far (p := ⟨na, 3, none⟩) HNE.out.1 v3).far (p := ⟨na, 4, none⟩) HNE.out.1 v4
        have hs : ∀ (V : World) (i : Nat) (u : Value), (V.setCell ⟨na, i, none⟩ u).heap[mb]? = V.heap[mb]? := fun V i u => Below.heap_setCell V ⟨na, i, none⟩ u mb HNE.out.2
        have hc := (HC6.out.bw hW).kept ((hs _ 4 v4).trans ((hs _ 3 v3).trans ((hs _ 2 v2).trans ((hs _ 1 v1).trans (hs W 0 v0)))))
        exact ⟨hx.cell 0, hx.cell 1, hx.cell 2, hx.cell 3, hx.cell 4, hc.lookF, hc.lookD⟩))
      have HCA := hid (fun W (hW : Bw w6 W) => (show ChkAt W ao mo from ChkAt.of_own (hW.own HR6.out) HOKM.out))
      go_wp2_with fail
      go_region_held3 (fun W => W.cell? ⟨gx, 0, none⟩ = some (.int .i64 (c' : Nat)) ∧ W.cell? ⟨gx, 1, none⟩ = some (.int .i64 (r' : Nat)) ∧ W.cell? ⟨gx, 2, none⟩ = some (.int .i64 (b' : Nat)) ∧ W.cell? ⟨gx, 3, none⟩ = some (.string fr) ∧ W.cell? ⟨gx, 4, none⟩ = some (.slice ao mo.length cp) ∧ (Instr.lookup 87 (.map (some mb)) (.string ⟨#[102, 109, 116, 32]⟩) false).run Tryd.prog W = .ok (.int .i64 1) W ∧ (Instr.lookup 87 (.map (some mb)) (.string ⟨#[100, 97, 116, 97]⟩) false).run Tryd.prog W = .ok (.int .i64 1) W)
        (first | exact HSK.out _ HBD.out | exact HSK.out _ HBv.out | exact HSK.out _ HBf.out | exact HSF.out _ _ _ _ _ _ HBf.out)
        (first | (go_at_call 35; refine (HVA.out _ (HCA.out _ HBD.out)).mono ?_; rintro e wv ⟨rfl, hbv⟩; have HBv := hid (HBD.out.trans hbv); clear hbv) | (go_at_call 36; refine (HFO.out _ _ _ (HWD.out.bw (HB6.out.trans HBv.out))).mono ?_; rintro e wf ⟨rfl, hbf⟩; have HBf := hid (HBv.out.trans hbf); have HNf := hid (HBf.out.has HN6.out); obtain ⟨z0, z1, z2, z3, z4⟩ := HNf.out.five; have f0 := HNf.out.frozen 0; have f1 := HNf.out.frozen 1; have f2 := HNf.out.frozen 2; have f3 := HNf.out.frozen 3; have f4 := HNf.out.frozen 4; clear hbf))
      all_goals
        have HZ := hid (((((HNf.out.put 0 (.int .i64 (c' : Nat))).put 1 (.int .i64 (r' : Nat))).put 2 (.int .i64 (b' : Nat))).put 3 (.string fr)).put 4 (.slice ao mo.length cp))
        have hs : ∀ (V : World) (i : Nat) (u : Value), Bw w V → Bw w (V.setCell ⟨na, i, none⟩ u) := fun V i u hV => Below.setCell (p := ⟨na, i, none⟩) hV (by have := HNAE.out; show w.heap.size ≤ na; omega) u
        have HBZ := hid (hs _ 4 (.slice ao mo.length cp) (hs _ 3 (.string fr) (hs _ 2 (.int .i64 (b' : Nat)) (hs _ 1 (.int .i64 (r' : Nat)) (hs _ 0 (.int .i64 (c' : Nat)) (HB6.out.trans HBf.out))))))
        have ho : ∀ (V : World) (i : Nat) (u : Value), V.ownsRow w.heap.size 42 2 (.slice ao mo.length cp) mo.length (chkCells mo) → (∃ cs, Has V na 34 cs) → (V.setCell ⟨na, i, none⟩ u).ownsRow w.heap.size 42 2 (.slice ao mo.length cp) mo.length (chkCells mo) ∧ (∃ cs, Has (V.setCell ⟨na, i, none⟩ u) na 34 cs) := fun V i u h1 h2 => by
          obtain ⟨cs, h2⟩ := h2
          exact ⟨own_far h1 (p := ⟨na, i, none⟩) (own_ne_has h1 h2 (by decide)) u, _, h2.put i u⟩
        have h1 := ho _ 0 (.int .i64 (c' : Nat)) (HBf.out.own HR6.out) ⟨_, HNf.out⟩
        have h2 := ho _ 1 (.int .i64 (r' : Nat)) h1.1 h1.2
        have h3 := ho _ 2 (.int .i64 (b' : Nat)) h2.1 h2.2
        have h4 := ho _ 3 (.string fr) h3.1 h3.2
        have h5 := ho _ 4 (.slice ao mo.length cp) h4.1 h4.2
        have HOZ := hid h5.1
        clear hs ho h1 h2 h3 h4 h5 z0 z1 z2 z3 z4 f0 f1 f2 f3 f4
        go_wp2
        generalize World.setCell (World.setCell (World.setCell (World.setCell (World.setCell wf _ _) _ _) _ _) _ _) _ _ = wz at *
        have y0 : wz.cell? ⟨na, 0, none⟩ = some (.int .i64 (c' : Nat)) := (HZ.out.cell 0).trans rfl
        have y1 : wz.cell? ⟨na, 1, none⟩ = some (.int .i64 (r' : Nat)) := (HZ.out.cell 1).trans rfl
        have y2 : wz.cell? ⟨na, 2, none⟩ = some (.int .i64 (b' : Nat)) := (HZ.out.cell 2).trans rfl
        have y3 : wz.cell? ⟨na, 3, none⟩ = some (.string fr) := (HZ.out.cell 3).trans rfl
        have y4 : wz.cell? ⟨na, 4, none⟩ = some (.slice ao mo.length cp) := (HZ.out.cell 4).trans rfl
        refine bodyPost_ret (by simp [results, Tryd.results39, go_sem, y0, y1, y2, y3, y4]; try rfl) rfl ?_
        refine ⟨ao, cp, by rw [HFIN.out, HMO.out], HBZ.out, ?_⟩
        rw [HMO.out]
        exact ChkAt.of_own HOZ.out HOKM.out
end Go.Proofs.YtgkgimfdbkpbdaaDoor

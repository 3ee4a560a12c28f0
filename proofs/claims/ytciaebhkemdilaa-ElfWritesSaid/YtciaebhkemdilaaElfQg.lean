/- The document's May (contract of the function). -/
import Derived.Test.YtciaebhkemdilaaElfQf
import Derived.Test.YtciaebhkemdilaaElfTg
namespace Go.Proofs.Ytciaebhkemdilaa
open Go.RowKit
set_option linter.unusedVariables false
set_option linter.unusedSimpArgs false
theorem validB_eq (m : ElfR) : validB m = (inB 65535 m.typ && (inB 65535 m.mac && (inB 4294967295 m.flg && (decide (m.segs.length ≤ 1000) && (decide (m.secs.length ≤ 1000) && (m.segs.all segOk && m.secs.all secOk)))))) := by
  unfold validB betB
  simp only [List.all_cons, List.all_nil, Bool.and_true, Bool.and_assoc]
  have e : ∀ n : Nat, inB 1000 (n : Int) = decide (n ≤ 1000) := fun n => by
    unfold inB
    rw [decide_eq_true (by omega : (0 : Int) ≤ n), Bool.true_and]
    by_cases h : n ≤ 1000
    · rw [decide_eq_true h, decide_eq_true (by omega)]
    · rw [decide_eq_false h, decide_eq_false (by omega)]
  rw [e, e]
theorem segOk_eq (x : SegR) : segOk x = (inB 4294967295 x.typ && (inB 4294967295 x.flg && (inB 1099511627776 x.off && inB 1099511627776 x.fsz))) := by
  unfold segOk betB
  simp only [List.all_cons, List.all_nil, Bool.and_true, Bool.and_assoc]
theorem secOk_eq (x : SecR) : secOk x = (noZ x.nam && (decide (x.nam.size ≤ 200) && (inB 4294967295 x.typ && (inB 4294967295 x.lnk && (inB 4294967295 x.inf && (inB 1099511627776 x.siz && sec1 x)))))) := by
  unfold secOk betB
  simp only [List.all_cons, List.all_nil, Bool.and_true]
  cases sec1 x <;> cases noZ x.nam <;> cases decide (x.nam.size ≤ 200) <;> cases inB 4294967295 x.typ <;> cases inB 4294967295 x.lnk <;> cases inB 4294967295 x.inf <;> cases inB 1099511627776 x.siz <;> rfl
theorem valid_segF {m : ElfR} {x : SegR} (hx : x ∈ m.segs) (h : segOk x = false) : validB m = false := by
  have : m.segs.all segOk = false := by rw [List.all_eq_false]; exact ⟨x, hx, by rw [h]; decide⟩
  rw [validB_eq, this]
  simp
theorem valid_secF {m : ElfR} {x : SecR} (hx : x ∈ m.secs) (h : secOk x = false) : validB m = false := by
  have : m.secs.all secOk = false := by rw [List.all_eq_false]; exact ⟨x, hx, by rw [h]; decide⟩
  rw [validB_eq, this]
  simp
set_option maxRecDepth 100000 in
set_option maxHeartbeats 8000000 in
theorem may_any (m : ElfR) (a b : Option Addr) (n k c d : Nat) (hn : m.segs.length = n) (hk : m.secs.length = k) (hn9 : n ≤ 100000) (hk9 : k ≤ 100000) (hsz : ∀ x ∈ m.secs, x.nam.size ≤ 9223372036854775807) (w : World) (ha : ElfAt w m a b) :
    Calls Try.prog 36 #[.agg #[.int .i64 m.typ, .int .i64 m.mac, .int .u64 m.ent, .int .i64 m.flg, .slice a n c, .slice b k d]] w fun e w' => e = .returned (.bool (validB m)) ∧ Bw w w' := by
  have HVE := hid (validB_eq m)
  have HSF := hid (fun x hx h => valid_segF (m := m) (x := x) hx h)
  have HCF := hid (fun x hx h => valid_secF (m := m) (x := x) hx h)
  obtain ⟨V, hV⟩ : ∃ V, validB m = V := ⟨_, rfl⟩
  rw [hV] at HVE HSF HCF ⊢
  clear hV
  obtain ⟨ty, ma, en, fl, sg, sc⟩ := m
  simp only at hn hk hsz HVE HSF HCF ⊢
  have HA := hid (show SegAt w a sg from ha.1)
  have HC := hid (show SecAt w b sc from ha.2)
  have HN := hid hn
  have HK := hid hk
  have HSZ := hid hsz
  rw [hn, hk] at HVE
  clear ha hn hk hsz
  have W1 := hid (fun W => within_any ty 65535 W)
  have W2 := hid (fun W => within_any ma 65535 W)
  have W3 := hid (fun W => within_any fl 4294967295 W)
  obtain ⟨q1, h1⟩ : ∃ q, inB 65535 ty = q := ⟨_, rfl⟩
  obtain ⟨q2, h2⟩ : ∃ q, inB 65535 ma = q := ⟨_, rfl⟩
  obtain ⟨q3, h3⟩ : ∃ q, inB 4294967295 fl = q := ⟨_, rfl⟩
  rw [h1] at W1 HVE
  rw [h2] at W2 HVE
  rw [h3] at W3 HVE
  clear h1 h2 h3
  have HX2 := hid (Has.new w 27 #[.int .i64 ty, .int .i64 ma, .int .u64 en, .int .i64 fl, .slice a n c, .slice b k d])
  have HW := hid ((Bw.refl w).alloc (.cells #[.int .i64 ty, .int .i64 ma, .int .u64 en, .int .i64 fl, .slice a n c, .slice b k d] 27))
  obtain ⟨g, hg⟩ : ∃ g, w.heap.size = g := ⟨_, rfl⟩
  rw [hg] at HX2
  go_enter Try.func36, Try.ntmps36
  go_upto_region 1 with fail
  generalize w.alloc (.cells #[.int .i64 ty, .int .i64 ma, .int .u64 en, .int .i64 fl, .slice a n c, .slice b k d] 27) = w1 at *
  clear hg
  have x0 : w1.cell? ⟨g, 0, none⟩ = some (.int .i64 ty) := HX2.out.cell 0
  have x1 : w1.cell? ⟨g, 1, none⟩ = some (.int .i64 ma) := HX2.out.cell 1
  have x3 : w1.cell? ⟨g, 3, none⟩ = some (.int .i64 fl) := HX2.out.cell 3
  have x4 : w1.cell? ⟨g, 4, none⟩ = some (.slice a n c) := HX2.out.cell 4
  have x5 : w1.cell? ⟨g, 5, none⟩ = some (.slice b k d) := HX2.out.cell 5
  by_cases q1h : q1 = false
  · subst q1h
    have HF := hid (show V = false from by rw [HVE.out]; simp)
    go_wp2_with (go_at_call 65; with_reducible (first | refine (W1.out _).mono ?_ | refine (W2.out _).mono ?_ | refine (W3.out _).mono ?_); rintro e w' ⟨rfl, hww⟩; have hww := hww.symm; subst hww)
    go_returns
    exact ⟨by rw [HF.out]; rfl, HW.out⟩
  have q1t : q1 = true := by cases q1; exact absurd rfl q1h; rfl
  subst q1t
  clear q1h
  by_cases q2h : q2 = false
  · subst q2h
    have HF := hid (show V = false from by rw [HVE.out]; simp)
    go_wp2_with (go_at_call 65; with_reducible (first | refine (W1.out _).mono ?_ | refine (W2.out _).mono ?_ | refine (W3.out _).mono ?_); rintro e w' ⟨rfl, hww⟩; have hww := hww.symm; subst hww)
    go_returns
    exact ⟨by rw [HF.out]; rfl, HW.out⟩
  have q2t : q2 = true := by cases q2; exact absurd rfl q2h; rfl
  subst q2t
  clear q2h
  by_cases q3h : q3 = false
  · subst q3h
    have HF := hid (show V = false from by rw [HVE.out]; simp)
    go_wp2_with (go_at_call 65; with_reducible (first | refine (W1.out _).mono ?_ | refine (W2.out _).mono ?_ | refine (W3.out _).mono ?_); rintro e w' ⟨rfl, hww⟩; have hww := hww.symm; subst hww)
    go_returns
    exact ⟨by rw [HF.out]; rfl, HW.out⟩
  have q3t : q3 = true := by cases q3; exact absurd rfl q3h; rfl
  subst q3t
  clear q3h
  by_cases hn1 : (1000 : Int) < n
  · have HF := hid (show V = false from by rw [HVE.out]; simp; omega)
    go_wp2_with (go_at_call 65; with_reducible (first | refine (W1.out _).mono ?_ | refine (W2.out _).mono ?_ | refine (W3.out _).mono ?_); rintro e w' ⟨rfl, hww⟩; have hww := hww.symm; subst hww)
    go_returns
    exact ⟨by rw [HF.out]; rfl, HW.out⟩
  by_cases hk1 : (1000 : Int) < k
  · have HF := hid (show V = false from by rw [HVE.out]; simp; omega)
    go_wp2_with (go_at_call 65; with_reducible (first | refine (W1.out _).mono ?_ | refine (W2.out _).mono ?_ | refine (W3.out _).mono ?_); rintro e w' ⟨rfl, hww⟩; have hww := hww.symm; subst hww)
    go_returns
    exact ⟨by rw [HF.out]; rfl, HW.out⟩
  go_wp2_with (go_at_call 65; with_reducible (first | refine (W1.out _).mono ?_ | refine (W2.out _).mono ?_ | refine (W3.out _).mono ?_); rintro e w' ⟨rfl, hww⟩; have hww := hww.symm; subst hww)
  clear x0 x1 x3 x4 x5 W1 W2 W3
  go_loopw [3] (fun vi wr => ∃ i : Nat, i ≤ n ∧ vi = .int .i64 i ∧ Hid (∀ j (hj : j < sg.length), j < i → segOk sg[j] = true) ∧ Bw w1 wr) (fun vi _ => n - (intOf vi).toNat)
  case atStart => exact ⟨0, Nat.zero_le _, rfl, hid (fun j _ h => absurd h (Nat.not_lt_zero j)), Bw.refl _⟩
  case round =>
    rename World => wr
    obtain ⟨i, hi, rfl, HALL, hw⟩ := hrel
    have HK1 := hid hw
    have x4 : wr.cell? ⟨g, 4, none⟩ = some (.slice a n c) := (hw.has HX2.out).cell 4
    by_cases hlt : i < n
    · have hk2 : (i : Int) < n := by omega
      have hil : i < sg.length := by rw [HN.out]; exact hlt
      obtain ⟨ab, ao, rfl, hok, hrg⟩ := seg_range (HA.out.bw (HW.out.trans hw)) i hil
      have HRG := hid hrg
      have HMEM := hid (List.getElem_mem hil)
      obtain ⟨x, hx⟩ : ∃ x, sg[i] = x := ⟨_, rfl⟩
      have HXX := hid hx
      have HOE := hid (segOk_eq x)
      rw [hx] at HRG HMEM
      have Y1 := hid (fun W => within_any x.typ 4294967295 W)
      have Y2 := hid (fun W => within_any x.flg 4294967295 W)
      have Y3 := hid (fun W => within_any x.off 1099511627776 W)
      have Y4 := hid (fun W => within_any x.fsz 1099511627776 W)
      obtain ⟨p1, h1⟩ : ∃ q, inB 4294967295 x.typ = q := ⟨_, rfl⟩
      obtain ⟨p2, h2⟩ : ∃ q, inB 4294967295 x.flg = q := ⟨_, rfl⟩
      obtain ⟨p3, h3⟩ : ∃ q, inB 1099511627776 x.off = q := ⟨_, rfl⟩
      obtain ⟨p4, h4⟩ : ∃ q, inB 1099511627776 x.fsz = q := ⟨_, rfl⟩
      rw [h1, h2, h3, h4] at HOE
      rw [h1] at Y1
      rw [h2] at Y2
      rw [h3] at Y3
      rw [h4] at Y4
      clear h1 h2 h3 h4 hw hok hrg hx
      have HX5 := hid (Has.new wr 61 #[.int .i64 x.typ, .int .i64 x.flg, .int .i64 x.off, .int .u64 x.vad, .int .u64 x.pad, .int .i64 x.fsz, .int .u64 x.msz, .int .u64 x.aln])
      have HB5 := hid (HK1.out.alloc (.cells #[.int .i64 x.typ, .int .i64 x.flg, .int .i64 x.off, .int .u64 x.vad, .int .u64 x.pad, .int .i64 x.fsz, .int .u64 x.msz, .int .u64 x.aln] 61))
      obtain ⟨xb, hxb⟩ : ∃ xb, wr.heap.size = xb := ⟨_, rfl⟩
      rw [hxb] at HX5
      go_upto_region 6 with fail
      refine wp_region_list ?_
      refine wpList_plain rfl fun K hK => ?_
      go_simp
      refine hK _ _ ?_
      clear hK K
      refine wpList_plain rfl fun K hK => ?_
      go_simp
      refine hK _ _ ?_
      clear hK K
      refine wpList_plain rfl fun K hK => ?_
      go_simp
      refine hK _ _ ?_
      clear hK K
      refine wpList_plain rfl fun K hK => ?_
      go_simp
      refine hK _ _ ?_
      clear hK K
      refine wpList_load_mid rfl 61 (.tmp 45) rfl ab (ao + i * 8) rfl [.int .i64 x.typ, .int .i64 x.flg, .int .i64 x.off, .int .u64 x.vad, .int .u64 x.pad, .int .i64 x.fsz, .int .u64 x.msz, .int .u64 x.aln] _ HRG.out Try.underlying61 rfl inf_Segment ?_
      go_upto_region 7 with fail
      generalize wr.alloc (.cells #[.int .i64 x.typ, .int .i64 x.flg, .int .i64 x.off, .int .u64 x.vad, .int .u64 x.pad, .int .i64 x.fsz, .int .u64 x.msz, .int .u64 x.aln] 61) = w5 at *
      clear hxb x4
      have y0 : w5.cell? ⟨xb, 0, none⟩ = some (.int .i64 x.typ) := HX5.out.cell 0
      have y1 : w5.cell? ⟨xb, 1, none⟩ = some (.int .i64 x.flg) := HX5.out.cell 1
      have y2 : w5.cell? ⟨xb, 2, none⟩ = some (.int .i64 x.off) := HX5.out.cell 2
      have y5 : w5.cell? ⟨xb, 5, none⟩ = some (.int .i64 x.fsz) := HX5.out.cell 5
      by_cases p1h : p1 = false
      · subst p1h
        have HF := hid (show V = false from by exact HSF.out x HMEM.out (by rw [HOE.out]; simp))
        go_wp2_with (go_at_call 65; with_reducible (first | refine (Y1.out _).mono ?_ | refine (Y2.out _).mono ?_ | refine (Y3.out _).mono ?_ | refine (Y4.out _).mono ?_); rintro e w' ⟨rfl, hww⟩; have hww := hww.symm; subst hww)
        go_returns
        exact ⟨by rw [HF.out]; rfl, HW.out.trans HB5.out⟩
      have p1t : p1 = true := by cases p1; exact absurd rfl p1h; rfl
      subst p1t
      clear p1h
      by_cases p2h : p2 = false
      · subst p2h
        have HF := hid (show V = false from by exact HSF.out x HMEM.out (by rw [HOE.out]; simp))
        go_wp2_with (go_at_call 65; with_reducible (first | refine (Y1.out _).mono ?_ | refine (Y2.out _).mono ?_ | refine (Y3.out _).mono ?_ | refine (Y4.out _).mono ?_); rintro e w' ⟨rfl, hww⟩; have hww := hww.symm; subst hww)
        go_returns
        exact ⟨by rw [HF.out]; rfl, HW.out.trans HB5.out⟩
      have p2t : p2 = true := by cases p2; exact absurd rfl p2h; rfl
      subst p2t
      clear p2h
      by_cases p3h : p3 = false
      · subst p3h
        have HF := hid (show V = false from by exact HSF.out x HMEM.out (by rw [HOE.out]; simp))
        go_wp2_with (go_at_call 65; with_reducible (first | refine (Y1.out _).mono ?_ | refine (Y2.out _).mono ?_ | refine (Y3.out _).mono ?_ | refine (Y4.out _).mono ?_); rintro e w' ⟨rfl, hww⟩; have hww := hww.symm; subst hww)
        go_returns
        exact ⟨by rw [HF.out]; rfl, HW.out.trans HB5.out⟩
      have p3t : p3 = true := by cases p3; exact absurd rfl p3h; rfl
      subst p3t
      clear p3h
      by_cases p4h : p4 = false
      · subst p4h
        have HF := hid (show V = false from by exact HSF.out x HMEM.out (by rw [HOE.out]; simp))
        go_wp2_with (go_at_call 65; with_reducible (first | refine (Y1.out _).mono ?_ | refine (Y2.out _).mono ?_ | refine (Y3.out _).mono ?_ | refine (Y4.out _).mono ?_); rintro e w' ⟨rfl, hww⟩; have hww := hww.symm; subst hww)
        go_returns
        exact ⟨by rw [HF.out]; rfl, HW.out.trans HB5.out⟩
      have p4t : p4 = true := by cases p4; exact absurd rfl p4h; rfl
      subst p4t
      clear p4h
      go_wp2_with (go_at_call 65; with_reducible (first | refine (Y1.out _).mono ?_ | refine (Y2.out _).mono ?_ | refine (Y3.out _).mono ?_ | refine (Y4.out _).mono ?_); rintro e w' ⟨rfl, hww⟩; have hww := hww.symm; subst hww)
      exact ⟨⟨i + 1, by omega, by go_num, hid (fun j hj h => by
        by_cases e : j = i
        · subst e
          rw [HXX.out, HOE.out]
          rfl
        · exact HALL.out j hj (by omega)), HB5.out⟩, by simp [intOf]; omega⟩
    · obtain rfl : i = n := by omega
      have HSA := hid (show sg.all segOk = true from by
        rw [List.all_eq_true]
        intro x hx
        obtain ⟨j, hj, rfl⟩ := List.mem_iff_getElem.1 hx
        exact HALL.out j hj (by rw [← HN.out]; exact hj))
      have HWR := hid (HW.out.trans hw)
      clear HA HALL
      go_wp2_with fail
      clear x4
      go_loopw [5] (fun vi wq => ∃ i : Nat, i ≤ k ∧ vi = .int .i64 i ∧ Hid (∀ j (hj : j < sc.length), j < i → secOk sc[j] = true) ∧ Bw wr wq) (fun vi _ => k - (intOf vi).toNat)
      case atStart => exact ⟨0, Nat.zero_le _, rfl, hid (fun j _ h => absurd h (Nat.not_lt_zero j)), Bw.refl _⟩
      case round =>
        rename World => wq
        obtain ⟨j, hj, rfl, HALL, hwq⟩ := hrel
        have HK2 := hid hwq
        have x5 : wq.cell? ⟨g, 5, none⟩ = some (.slice b k d) := ((HK1.out.trans hwq).has HX2.out).cell 5
        by_cases hlt2 : j < k
        · have hk2 : (j : Int) < k := by omega
          have hjl : j < sc.length := by rw [HK.out]; exact hlt2
          obtain ⟨ab, ao, rfl, hok, hrg⟩ := sec_range (HC.out.bw (HWR.out.trans hwq)) j hjl
          have HRG := hid hrg
          have HMEM := hid (List.getElem_mem hjl)
          obtain ⟨x, hx⟩ : ∃ x, sc[j] = x := ⟨_, rfl⟩
          have HXX := hid hx
          have HOE := hid (secOk_eq x)
          rw [hx] at HRG HMEM
          have HS1 := hid (show sec1 x = if x.typ = 8 then decide (x.dat.size = 0) else decide (x.siz = 0) from rfl)
          obtain ⟨nm, ty2, fl2, ad2, dt, sz2, lk2, in2, al2, ea2⟩ := x
          simp only at HRG HOE HS1 HXX HMEM
          have Y0 := hid (fun W => none_any nm (HSZ.out _ HMEM.out) W)
          have Y1 := hid (fun W => within_any ty2 4294967295 W)
          have Y2 := hid (fun W => within_any lk2 4294967295 W)
          have Y3 := hid (fun W => within_any in2 4294967295 W)
          have Y4 := hid (fun W => within_any sz2 1099511627776 W)
          obtain ⟨p0, h0⟩ : ∃ q, noZ nm = q := ⟨_, rfl⟩
          obtain ⟨p1, h1⟩ : ∃ q, inB 4294967295 ty2 = q := ⟨_, rfl⟩
          obtain ⟨p2, h2⟩ : ∃ q, inB 4294967295 lk2 = q := ⟨_, rfl⟩
          obtain ⟨p3, h3⟩ : ∃ q, inB 4294967295 in2 = q := ⟨_, rfl⟩
          obtain ⟨p4, h4⟩ : ∃ q, inB 1099511627776 sz2 = q := ⟨_, rfl⟩
          rw [h0, h1, h2, h3, h4] at HOE
          rw [h0] at Y0
          rw [h1] at Y1
          rw [h2] at Y2
          rw [h3] at Y3
          rw [h4] at Y4
          clear h0 h1 h2 h3 h4 hwq hok hrg hx
          have HX5 := hid (Has.new wq 43 #[.string nm, .int .i64 ty2, .int .u64 fl2, .int .u64 ad2, .string dt, .int .i64 sz2, .int .i64 lk2, .int .i64 in2, .int .u64 al2, .int .u64 ea2])
          have HB5 := hid (HK2.out.alloc (.cells #[.string nm, .int .i64 ty2, .int .u64 fl2, .int .u64 ad2, .string dt, .int .i64 sz2, .int .i64 lk2, .int .i64 in2, .int .u64 al2, .int .u64 ea2] 43))
          obtain ⟨xb, hxb⟩ : ∃ xb, wq.heap.size = xb := ⟨_, rfl⟩
          rw [hxb] at HX5
          go_upto_region 12 with fail
          refine wp_region_list ?_
          refine wpList_plain rfl fun K hK => ?_
          go_simp
          refine hK _ _ ?_
          clear hK K
          refine wpList_plain rfl fun K hK => ?_
          go_simp
          refine hK _ _ ?_
          clear hK K
          refine wpList_plain rfl fun K hK => ?_
          go_simp
          refine hK _ _ ?_
          clear hK K
          refine wpList_plain rfl fun K hK => ?_
          go_simp
          refine hK _ _ ?_
          clear hK K
          refine wpList_load_mid rfl 43 (.tmp 79) rfl ab (ao + j * 10) rfl [.string nm, .int .i64 ty2, .int .u64 fl2, .int .u64 ad2, .string dt, .int .i64 sz2, .int .i64 lk2, .int .i64 in2, .int .u64 al2, .int .u64 ea2] _ HRG.out Try.underlying43 rfl inf_Section ?_
          go_upto_region 13 with fail
          generalize wq.alloc (.cells #[.string nm, .int .i64 ty2, .int .u64 fl2, .int .u64 ad2, .string dt, .int .i64 sz2, .int .i64 lk2, .int .i64 in2, .int .u64 al2, .int .u64 ea2] 43) = w5 at *
          clear hxb x5
          have y0 : w5.cell? ⟨xb, 0, none⟩ = some (.string nm) := HX5.out.cell 0
          have y1 : w5.cell? ⟨xb, 1, none⟩ = some (.int .i64 ty2) := HX5.out.cell 1
          have y4 : w5.cell? ⟨xb, 4, none⟩ = some (.string dt) := HX5.out.cell 4
          have y5 : w5.cell? ⟨xb, 5, none⟩ = some (.int .i64 sz2) := HX5.out.cell 5
          have y6 : w5.cell? ⟨xb, 6, none⟩ = some (.int .i64 lk2) := HX5.out.cell 6
          have y7 : w5.cell? ⟨xb, 7, none⟩ = some (.int .i64 in2) := HX5.out.cell 7
          by_cases p0h : p0 = false
          · subst p0h
            have HF := hid (show V = false from by exact HCF.out _ HMEM.out (by rw [HOE.out]; simp))
            go_wp2_with (first | (go_at_call 66; refine (Y0.out _).mono ?_; rintro e w' ⟨rfl, hww⟩; have hww := hww.symm; subst hww) | (go_at_call 65; with_reducible (first | refine (Y1.out _).mono ?_ | refine (Y2.out _).mono ?_ | refine (Y3.out _).mono ?_ | refine (Y4.out _).mono ?_); rintro e w' ⟨rfl, hww⟩; have hww := hww.symm; subst hww))
            go_returns
            exact ⟨by rw [HF.out]; rfl, (HWR.out.trans HB5.out)⟩
          have p0t : p0 = true := by cases p0; exact absurd rfl p0h; rfl
          subst p0t
          clear p0h
          by_cases hnz : (200 : Int) < nm.size
          · have HF := hid (show V = false from by exact HCF.out _ HMEM.out (by rw [HOE.out]; simp; omega))
            go_wp2_with (first | (go_at_call 66; refine (Y0.out _).mono ?_; rintro e w' ⟨rfl, hww⟩; have hww := hww.symm; subst hww) | (go_at_call 65; with_reducible (first | refine (Y1.out _).mono ?_ | refine (Y2.out _).mono ?_ | refine (Y3.out _).mono ?_ | refine (Y4.out _).mono ?_); rintro e w' ⟨rfl, hww⟩; have hww := hww.symm; subst hww))
            go_returns
            exact ⟨by rw [HF.out]; rfl, HWR.out.trans HB5.out⟩
          by_cases p1h : p1 = false
          · subst p1h
            have HF := hid (show V = false from by exact HCF.out _ HMEM.out (by rw [HOE.out]; simp))
            go_wp2_with (first | (go_at_call 66; refine (Y0.out _).mono ?_; rintro e w' ⟨rfl, hww⟩; have hww := hww.symm; subst hww) | (go_at_call 65; with_reducible (first | refine (Y1.out _).mono ?_ | refine (Y2.out _).mono ?_ | refine (Y3.out _).mono ?_ | refine (Y4.out _).mono ?_); rintro e w' ⟨rfl, hww⟩; have hww := hww.symm; subst hww))
            go_returns
            exact ⟨by rw [HF.out]; rfl, (HWR.out.trans HB5.out)⟩
          have p1t : p1 = true := by cases p1; exact absurd rfl p1h; rfl
          subst p1t
          clear p1h
          by_cases p2h : p2 = false
          · subst p2h
            have HF := hid (show V = false from by exact HCF.out _ HMEM.out (by rw [HOE.out]; simp))
            go_wp2_with (first | (go_at_call 66; refine (Y0.out _).mono ?_; rintro e w' ⟨rfl, hww⟩; have hww := hww.symm; subst hww) | (go_at_call 65; with_reducible (first | refine (Y1.out _).mono ?_ | refine (Y2.out _).mono ?_ | refine (Y3.out _).mono ?_ | refine (Y4.out _).mono ?_); rintro e w' ⟨rfl, hww⟩; have hww := hww.symm; subst hww))
            go_returns
            exact ⟨by rw [HF.out]; rfl, (HWR.out.trans HB5.out)⟩
          have p2t : p2 = true := by cases p2; exact absurd rfl p2h; rfl
          subst p2t
          clear p2h
          by_cases p3h : p3 = false
          · subst p3h
            have HF := hid (show V = false from by exact HCF.out _ HMEM.out (by rw [HOE.out]; simp))
            go_wp2_with (first | (go_at_call 66; refine (Y0.out _).mono ?_; rintro e w' ⟨rfl, hww⟩; have hww := hww.symm; subst hww) | (go_at_call 65; with_reducible (first | refine (Y1.out _).mono ?_ | refine (Y2.out _).mono ?_ | refine (Y3.out _).mono ?_ | refine (Y4.out _).mono ?_); rintro e w' ⟨rfl, hww⟩; have hww := hww.symm; subst hww))
            go_returns
            exact ⟨by rw [HF.out]; rfl, (HWR.out.trans HB5.out)⟩
          have p3t : p3 = true := by cases p3; exact absurd rfl p3h; rfl
          subst p3t
          clear p3h
          by_cases p4h : p4 = false
          · subst p4h
            have HF := hid (show V = false from by exact HCF.out _ HMEM.out (by rw [HOE.out]; simp))
            go_wp2_with (first | (go_at_call 66; refine (Y0.out _).mono ?_; rintro e w' ⟨rfl, hww⟩; have hww := hww.symm; subst hww) | (go_at_call 65; with_reducible (first | refine (Y1.out _).mono ?_ | refine (Y2.out _).mono ?_ | refine (Y3.out _).mono ?_ | refine (Y4.out _).mono ?_); rintro e w' ⟨rfl, hww⟩; have hww := hww.symm; subst hww))
            go_returns
            exact ⟨by rw [HF.out]; rfl, (HWR.out.trans HB5.out)⟩
          have p4t : p4 = true := by cases p4; exact absurd rfl p4h; rfl
          subst p4t
          clear p4h
          have HOK := hid (show secOk _ = sec1 _ from by rw [HOE.out, decide_eq_true (by omega : nm.size ≤ 200)]; rfl)
          by_cases h8 : ty2 = 8
          · have t8 : (ty2 == 8) = true := beq_iff_eq.2 h8
            have t9 : (ty2 != 8) = false := by rw [h8]; rfl
            by_cases hd : dt.size = 0
            · have e0 := emp_yes hd
              have HOO := hid (show secOk _ = true from by rw [HOK.out, HS1.out, if_pos h8, decide_eq_true hd])
              clear h8
              go_wp2_with (first | (go_at_call 66; refine (Y0.out _).mono ?_; rintro e w' ⟨rfl, hww⟩; have hww := hww.symm; subst hww) | (go_at_call 65; with_reducible (first | refine (Y1.out _).mono ?_ | refine (Y2.out _).mono ?_ | refine (Y3.out _).mono ?_ | refine (Y4.out _).mono ?_); rintro e w' ⟨rfl, hww⟩; have hww := hww.symm; subst hww))
              exact ⟨⟨j + 1, by omega, by go_num, hid (fun i hi h => by
                by_cases e : i = j
                · subst e
                  rw [HXX.out]
                  exact HOO.out
                · exact HALL.out i hi (by omega)), HB5.out⟩, by simp [intOf]; omega⟩
            · have e0 := emp_no hd
              have HF := hid (show V = false from HCF.out _ HMEM.out (by rw [HOK.out, HS1.out, if_pos h8, decide_eq_false hd]))
              clear h8
              go_wp2_with (first | (go_at_call 66; refine (Y0.out _).mono ?_; rintro e w' ⟨rfl, hww⟩; have hww := hww.symm; subst hww) | (go_at_call 65; with_reducible (first | refine (Y1.out _).mono ?_ | refine (Y2.out _).mono ?_ | refine (Y3.out _).mono ?_ | refine (Y4.out _).mono ?_); rintro e w' ⟨rfl, hww⟩; have hww := hww.symm; subst hww))
              go_returns
              exact ⟨by rw [HF.out]; rfl, HWR.out.trans HB5.out⟩
          · have t8 : (ty2 == 8) = false := beq_eq_false_iff_ne.2 h8
            have t9 : (ty2 != 8) = true := bne_iff_ne.2 h8
            by_cases hs0 : sz2 = 0
            · have s0 : (sz2 != 0) = false := by rw [hs0]; rfl
              have HOO := hid (show secOk _ = true from by rw [HOK.out, HS1.out, if_neg h8, decide_eq_true hs0])
              clear h8 hs0
              go_wp2_with (first | (go_at_call 66; refine (Y0.out _).mono ?_; rintro e w' ⟨rfl, hww⟩; have hww := hww.symm; subst hww) | (go_at_call 65; with_reducible (first | refine (Y1.out _).mono ?_ | refine (Y2.out _).mono ?_ | refine (Y3.out _).mono ?_ | refine (Y4.out _).mono ?_); rintro e w' ⟨rfl, hww⟩; have hww := hww.symm; subst hww))
              exact ⟨⟨j + 1, by omega, by go_num, hid (fun i hi h => by
                by_cases e : i = j
                · subst e
                  rw [HXX.out]
                  exact HOO.out
                · exact HALL.out i hi (by omega)), HB5.out⟩, by simp [intOf]; omega⟩
            · have s0 : (sz2 != 0) = true := bne_iff_ne.2 hs0
              have HF := hid (show V = false from HCF.out _ HMEM.out (by rw [HOK.out, HS1.out, if_neg h8, decide_eq_false hs0]))
              clear h8 hs0
              go_wp2_with (first | (go_at_call 66; refine (Y0.out _).mono ?_; rintro e w' ⟨rfl, hww⟩; have hww := hww.symm; subst hww) | (go_at_call 65; with_reducible (first | refine (Y1.out _).mono ?_ | refine (Y2.out _).mono ?_ | refine (Y3.out _).mono ?_ | refine (Y4.out _).mono ?_); rintro e w' ⟨rfl, hww⟩; have hww := hww.symm; subst hww))
              go_returns
              exact ⟨by rw [HF.out]; rfl, HWR.out.trans HB5.out⟩
        · obtain rfl : j = k := by omega
          have HV := hid (show V = true from by
            rw [HVE.out, HSA.out, show sc.all secOk = true from by
              rw [List.all_eq_true]
              intro x hx
              obtain ⟨i, hi, rfl⟩ := List.mem_iff_getElem.1 hx
              exact HALL.out i hi (by rw [← HK.out]; exact hi)]
            simp
            omega)
          go_wp2_with fail
          go_returns
          exact ⟨by rw [HV.out]; rfl, HWR.out.trans hwq⟩
end Go.Proofs.Ytciaebhkemdilaa

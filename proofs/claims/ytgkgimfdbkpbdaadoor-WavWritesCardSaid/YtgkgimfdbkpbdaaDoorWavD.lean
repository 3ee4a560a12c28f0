/- The document's Join (contract of the function). -/
import Derived.Test.YtgkgimfdbkpbdaaDoorWavC
import Derived.Test.YtgkgimfdbkpbdaaDoorRowM
namespace Go.Proofs.YtgkgimfdbkpbdaaDoor
open Go.RowKit
set_option linter.unusedVariables false
set_option linter.unusedSimpArgs false
theorem RowM.alloc {w : World} {B : Nat} {e : TypeId} {v : Value} {s : ByteArray} (h : RowM w B e v s) (o : Obj) : RowM (w.alloc o) B e v s := h.keep fun b hb => Below.heap_alloc w o b (h.lt hb).2
theorem RowM.drew {w : World} {B : Nat} {e : TypeId} {v : Value} {s : ByteArray} (h : RowM w B e v s) : RowM w.drew B e v s := h
set_option maxRecDepth 100000 in
set_option maxHeartbeats 8000000 in
theorem rjoin_any (form : ByteArray) (hfz : form.size ≤ 9223372036854775807) (a : Option Addr) (len c : Nat) (hlen : len ≤ 9223372036854775807) (l : List ChkR) (hll : Hid (l.length = len)) (hf : Few l) (w : World) (ha : ChkAt w a l) :
    Calls Tryd.prog 15 #[.string form, .slice a len c] w fun e w' => e = .returned (.tuple #[.string (joinP form l).1, .int .i64 (joinP form l).2]) ∧ Bw w w' := by
  obtain ⟨i0, hinf, hz0, hz1, hz2⟩ := info_parts byteInfo
  have HA := hid ha
  have HF := hid hf
  have HSZ := hid (rSize_any a len c hlen l hll hf w ha)
  have HTY := hid (fun W => rType_any form hfz W)
  have hl50 : len ≤ 50 := by rw [← hll.out]; exact hf.1
  have hs9 := few_sum hf
  clear ha hf
  obtain ⟨sz, hsz⟩ : ∃ sz, 12 + sumP l = sz := ⟨_, rfl⟩
  rw [hsz] at HSZ
  have hsz9 : sz ≤ 1000462 ∧ 12 ≤ sz := by omega
  have HZ := hid hsz
  clear hsz hs9
  cases hty : typB form with
  | false =>
    rw [hty] at HTY
    have HJ := hid (joinB_no (l := l) hty)
    go_enter Tryd.func15, Tryd.ntmps15
    go_wp2_with fail
    refine HSZ.out.mono ?_
    rintro e w2 ⟨rfl, hb2⟩
    go_wp2_with fail
    refine (HTY.out _).mono ?_
    rintro e w3 ⟨rfl, hb3⟩
    have HB3 := hid (hb2.trans hb3)
    clear hb2 hb3
    go_wp2
    go_returns
    exact ⟨by rw [HJ.out]; rfl, HB3.out⟩
  | true =>
    rw [hty] at HTY
    have HT := hid hty
    clear hty
    have HDT := hid (show hdT form l = riffT ++ bytesS (4 + sumP l) 4 false ++ form from rfl)
    have HDZ := hid (hdT_size (l := l) HT.out)
    have hfz4 := typ_size HT.out
    have HNB := hid (fun W => rbytes4_any (4 + sumP l) (by have := HZ.out; omega) W)
    have HZ8 := hid (show ((4 + sumP l : Nat) : Int) = (sz : Int) - 8 by have := HZ.out; omega)
    rw [HZ8.out] at HNB
    obtain ⟨nt, hnt⟩ : ∃ nt, bytesS (4 + sumP l) 4 false = nt := ⟨_, rfl⟩
    have hnz : nt.size = 4 := by rw [← hnt]; exact bytesS_size _ _ _
    rw [hnt] at HNB HDT
    clear hnt
    obtain ⟨hd, hhd⟩ : ∃ hd, hdT form l = hd := ⟨_, rfl⟩
    rw [hhd] at HDT HDZ
    have HHD := hid hhd
    clear hhd
    have HCV := hid (fun W => run_bytes_of_string (P := Tryd.prog) W 9 55 5 hd Tryd.underlying9 Tryd.underlying55 Tryd.underlying5)
    have HRT := hid (show (⟨#[82, 73, 70, 70]⟩ : ByteArray) ++ nt ++ form = hd from HDT.out.symm)
    have k1 : ¬ 9223372036854775807 < 4 + nt.size := by omega
    have k2 : ¬ 9223372036854775807 < 4 + nt.size + form.size := by omega
    go_enter Tryd.func15, Tryd.ntmps15
    go_wp2_with fail
    refine HSZ.out.mono ?_
    rintro e w2 ⟨rfl, hb2⟩
    go_wp2_with fail
    refine (HTY.out _).mono ?_
    rintro e w3 ⟨rfl, hb3⟩
    have HB3 := hid (hb2.trans hb3)
    clear hb2 hb3 HTY HSZ
    go_wp2_with fail
    refine (HNB.out _).mono ?_
    rintro e w4 ⟨rfl, hb4⟩
    have HB4 := hid (HB3.out.trans hb4)
    clear hb4
    go_wp2_with fail
    rw [HRT.out, HCV.out]
    have HM5 := hid (RowM.made (e := 5) w4 w.heap.size hd (by rw [HDZ.out]; decide) HB4.out.size)
    have HB5a := hid (HB4.out.trans (((Bw.refl w4).drewN 1).alloc (.cells (bytesRow hd (grownCap w4 hd.size 0 5)) 5 ((bytesRow hd (grownCap w4 hd.size 0 5)).size, (bytesRow hd (grownCap w4 hd.size 0 5)).size + 1))))
    have HB5 : Hid (Bw w (w4.drew.alloc (.cells (bytesRow hd (grownCap w4 hd.size 0 5)) 5 ((bytesRow hd (grownCap w4 hd.size 0 5)).size, (bytesRow hd (grownCap w4 hd.size 0 5)).size + 1)))) := HB5a
    clear HB5a
    generalize (w4.drew.alloc (.cells (bytesRow hd (grownCap w4 hd.size 0 5)) 5 ((bytesRow hd (grownCap w4 hd.size 0 5)).size, (bytesRow hd (grownCap w4 hd.size 0 5)).size + 1))) = w5 at *
    generalize grownCap w4 hd.size 0 5 = cap0 at *
    generalize w4.heap.size = g0 at *
    clear HCV HRT HNB HDT
    go_wp2
    go_loopw [9, 10] (fun vb vi wr => ∃ k : Nat, k ≤ len ∧ vi = .int .i64 k ∧ Hid (∀ i (hi : i < l.length), i < k → typB l[i].typ = true) ∧ RowM wr w.heap.size 5 vb (hd ++ bodyT (l.take k)) ∧ Bw w wr) (fun _ vi _ => len - (intOf vi).toNat)
    case atStart => exact ⟨0, Nat.zero_le _, rfl, hid (fun i hi h => absurd h (Nat.not_lt_zero i)), by rw [List.take_zero, bodyT, app_nil]; exact HM5.out, HB5.out⟩
    case round =>
      rename World => wr
      obtain ⟨k, hk, rfl, HR, hrow, hw⟩ := hrel
      have HW := hid hw
      have HROW := hid hrow
      by_cases hlt : k < len
      · have hk1 : (k : Int) < len := by omega
        obtain ⟨b1, o1, rfl, hb1, z0, z1, hok⟩ := HA.out k (by rw [hll.out]; exact hlt)
        have p0 := hw.cell z0
        have p1 := hw.cell z1
        clear hw z0
        have hkl : k < l.length := by rw [hll.out]; exact hlt
        have HT2 := hid (fun W => rType_any (l[k]'hkl).typ hok.1 W)
        clear hok
        cases ht : typB (l[k]'hkl).typ with
        | false =>
          have HJ := hid (joinB_bad (form := form) hkl ht)
          rw [ht] at HT2
          clear ht
          obtain ⟨x, hx⟩ : ∃ x, l[k]'hkl = x := ⟨_, rfl⟩
          rw [hx] at p0 p1 HT2
          clear hx z1
          go_wp2_with fail
          refine (HT2.out _).mono ?_
          rintro e w6 ⟨rfl, hb6⟩
          have HB6 := hid (HW.out.trans hb6)
          clear hb6
          go_wp2
          go_returns
          exact ⟨by rw [HJ.out]; rfl, HB6.out⟩
        | true =>
          have HN := hid (all_snoc hkl HR.out ht)
          rw [ht] at HT2
          have h4 := typ_size ht
          clear ht
          have hdz := HF.out.2 _ (List.getElem_mem hkl)
          have HPN := hid (part_next (form := form) hkl)
          rw [HHD.out] at HPN
          obtain ⟨acc, hacc⟩ : ∃ acc, hd ++ bodyT (l.take k) = acc := ⟨_, rfl⟩
          have haz : acc.size ≤ 1000462 := by
            rw [← hacc, ByteArray.size_append, HDZ.out, bodyT_size]
            · have := few_take HF.out k
              omega
            · intro x hx
              obtain ⟨i, hi, rfl⟩ := List.getElem_of_mem hx
              rw [List.getElem_take]
              have : i < k := by have := List.length_take_le k l; omega
              exact HR.out i (by omega) this
          obtain ⟨acc2, hacc2⟩ : ∃ acc, hd ++ bodyT (l.take (k + 1)) = acc := ⟨_, rfl⟩
          rw [hacc2] at HPN
          rw [hacc] at HPN HROW
          have HACC2 := hid hacc2
          obtain ⟨x, hx⟩ : ∃ x, l[k]'hkl = x := ⟨_, rfl⟩
          rw [hx] at p0 p1 HT2 HPN h4 hdz z1
          clear hx hacc hacc2 hrow
          obtain ⟨xt, xd⟩ := x
          simp only at p0 p1 HT2 HPN h4 hdz z1
          have HZ1 := hid z1
          clear z1
          obtain ⟨ao, cp, rfl⟩ := HROW.out.slice
          have HNX := hid (fun W => rbytes4_any xd.size (by omega) W)
          obtain ⟨nx, hnx⟩ : ∃ nx, bytesS xd.size 4 false = nx := ⟨_, rfl⟩
          have hnxz : nx.size = 4 := by rw [← hnx]; exact bytesS_size _ _ _
          rw [hnx] at HNX HPN
          clear hnx
          have j1 : ¬ 9223372036854775807 < xt.size + nx.size := by omega
          have j2 : ¬ 9223372036854775807 < xt.size + nx.size + xd.size := by omega
          have j3 : ¬ 9223372036854775807 < 8 + xd.size := by omega
          go_wp2_with fail
          refine (HT2.out _).mono ?_
          rintro e w6 ⟨rfl, hb6⟩
          have HB6 := hid (HW.out.trans hb6)
          have HR6 := hid (HROW.out.bw hb6)
          have q0 := hb6.cell p0
          have q1 := hb6.cell p1
          clear p0 p1 hb6
          go_wp2_with fail
          refine (HNX.out _).mono ?_
          rintro e w7 ⟨rfl, hb7⟩
          have HB7 := hid (HB6.out.trans hb7)
          have HR7 := hid (HR6.out.bw hb7)
          have p0 := hb7.cell q0
          have p1 := hb7.cell q1
          clear q0 q1 hb7
          have hs7 := HB7.out.size
          obtain ⟨acc3, hacc3⟩ : ∃ acc3, acc ++ (xt ++ nx ++ xd) = acc3 := ⟨_, rfl⟩
          have hz8 : acc3.size ≤ 1100000 := by rw [← hacc3]; simp only [ByteArray.size_append]; omega
          have HACC3 := hid hacc3
          clear hacc3
          go_wp2_with fail
          go_region_law (refine step_app_strM (by rfl) (.tmp 58) (.tmp 71) 55 9 (by rfl) w.heap.size Tryd.underlying55 Tryd.underlying9 hinf hz0 hz1 hz2 (.slice ao acc.size cp) acc (by rfl) HR7.out.drew (xt ++ nx ++ xd) (by rfl) (by rw [ByteArray.size_append, ByteArray.size_append]; omega) hs7 ?_; intro v8 w8 hrow8 hgrow8; rw [HACC3.out] at hrow8; obtain ⟨ao8, cp8, rfl⟩ := hrow8.slice; have HR8 := hid hrow8; have HB8 := hid (show Bw w w8 from HR7.out.drew.grown hgrow8 (HB7.out.drewN 1) hs7); clear hrow8 hgrow8)
          all_goals
            have r1 := HB8.out.cell HZ1.out
            by_cases hodd : xd.size % 2 = 1
            · have e2 : ((xd.size : Int) % 2 == 1) = true := by rw [beq_iff_eq]; omega
              have HO := hid (show oddT xd.size = ⟨#[0]⟩ from if_pos hodd)
              have HPN2 := hid (show acc3 ++ ⟨#[0]⟩ = acc2 from by
                have h := HPN.out
                rw [HO.out] at h
                rw [← h, ← HACC3.out]
                simp only [app_as])
              have hs8 := HB8.out.size
              clear hodd HO HPN
              go_wp2_with (at_builtin; refine wpList_app_oneM rfl _ _ 55 rfl w.heap.size Tryd.underlying55 hinf hz0 hz1 hz2 _ acc3 rfl (HR8.out.alloc _) 0 ⟨w8.heap.size, 0, none⟩ 1 rfl (by simp [Addr.add]) (by omega) (by simp; omega) ?_; intro v9 w9 hrow9 hgrow9; have HR9 := hid hrow9; have HB9 := hid (show Bw w w9 from (HR8.out.alloc _).grown hgrow9 (HB8.out.alloc _) (by simp; omega)); clear hrow9 hgrow9)
              rw [HPN2.out] at HR9
              exact ⟨⟨k + 1, by omega, by go_num, HN, by rw [HACC2.out]; exact HR9.out, HB9.out⟩, by simp [intOf]; omega⟩
            · have e2 : ((xd.size : Int) % 2 == 1) = false := by rw [beq_eq_false_iff_ne]; omega
              have HO := hid (show oddT xd.size = ⟨#[]⟩ from if_neg hodd)
              have HPN2 := hid (show acc3 = acc2 from by
                have h := HPN.out
                rw [HO.out, app_nil] at h
                rw [← h, ← HACC3.out]
                simp only [app_as])
              clear hodd HO HPN
              go_wp2
              exact ⟨⟨k + 1, by omega, by go_num, HN, by rw [HACC2.out, ← HPN2.out]; exact HR8.out, HB8.out⟩, by simp [intOf]; omega⟩
      · obtain rfl : k = len := by omega
        have HAL := hid (all_list (l := l) (fun i hi _ => HR.out i hi (by rw [← hll.out]; exact hi)))
        have HJ := hid (joinB_ok HT.out HAL.out)
        have HCV := hid (convM HROW.out)
        have HEND := hid (show hd ++ bodyT (l.take k) = joinT form l from by rw [← hll.out, List.take_length, ← HHD.out]; rfl)
        rw [HEND.out] at HCV HROW
        obtain ⟨ao, cp, rfl⟩ := HROW.out.slice
        clear hw HR hrow
        go_wp2
        rw [HCV.out]
        go_wp2
        go_returns
        exact ⟨by rw [HJ.out]; rfl, HW.out⟩
end Go.Proofs.YtgkgimfdbkpbdaaDoor

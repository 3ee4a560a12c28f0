/- Join (contract of the function). -/
import Derived.Test.YtgkgimfdbkpbdaaDoorWavB
import Derived.Test.YtgkgimfdbkpbdaaDoorShelfW
namespace Go.Proofs.YtgkgimfdbkpbdaaDoor
open Go.RowKit
set_option linter.unusedVariables false
set_option linter.unusedSimpArgs false
theorem BKeeps.has {B b g : Nat} {t : TypeId} {cs : Array Value} {w w' : World} (h : BKeeps B b w w') (k : Has w g t cs) (hg : g ≠ b) (ht : t ≠ 5) : Has w' g t cs :=
  (h.2.2 g k.lt hg fun cs' fr e => by
    unfold Has at k
    rw [k] at e
    injection e with e
    injection e with _ e
    exact ht e).trans k
theorem Bld.bw {B b : Nat} {u : Bool} {s : ByteArray} {w w' : World} (h : Bld B b u s w) (hb : Bw w w') : Bld B b u s w' := by
  obtain ⟨h1, v, h2, h3⟩ := h
  exact ⟨h1, v, hb.has h2, hb.own h3⟩
theorem Bld.lt {B b : Nat} {u : Bool} {s : ByteArray} {w : World} (h : Bld B b u s w) : b < w.heap.size := by
  obtain ⟨h1, v, h2, h3⟩ := h
  exact h2.lt
theorem all_snoc {l : List ChkR} {k : Nat} (hk : k < l.length) (h : ∀ i (hi : i < l.length), i < k → typB l[i].typ = true) (h2 : typB l[k].typ = true) : ∀ i (hi : i < l.length), i < k + 1 → typB l[i].typ = true := fun i hi hik => by
  by_cases e : i = k
  · subst e; exact h2
  · exact h i hi (by omega)
theorem joinB_no {form : ByteArray} {l : List ChkR} (h : typB form = false) : joinP form l = (⟨#[]⟩, 1) := by
  unfold joinP joinB
  rw [h, Bool.false_and, if_neg (by decide)]
theorem joinB_bad {form : ByteArray} {l : List ChkR} {k : Nat} (hk : k < l.length) (h : typB l[k].typ = false) : joinP form l = (⟨#[]⟩, 1) := by
  unfold joinP
  rw [if_neg]
  intro hj
  have := (joinB_all hj).2 _ (List.getElem_mem hk)
  rw [h] at this; cases this
theorem joinB_ok {form : ByteArray} {l : List ChkR} (h : typB form = true) (k : AllT l) : joinP form l = (joinT form l, 0) := by
  unfold joinP joinB
  rw [h, Bool.true_and, if_pos (List.all_eq_true.2 k)]
theorem all_list {l : List ChkR} (h : ∀ i (hi : i < l.length), i < l.length → typB l[i].typ = true) : AllT l := fun c hc => by
  obtain ⟨i, hi, rfl⟩ := List.getElem_of_mem hc
  exact h i hi hi
def hdT (form : ByteArray) (l : List ChkR) : ByteArray := riffT ++ bytesS (4 + sumP l) 4 false ++ form
theorem hdT_size {form : ByteArray} {l : List ChkR} (h : typB form = true) : (hdT form l).size = 12 := by
  unfold hdT
  rw [ByteArray.size_append, ByteArray.size_append, bytesS_size, typ_size h]
  rfl
theorem part_size {form : ByteArray} {l : List ChkR} (h : typB form = true) (ha : AllT l) (hf : Few l) (k : Nat) : (hdT form l ++ bodyT (l.take k)).size ≤ 1000462 := by
  rw [ByteArray.size_append, hdT_size h, bodyT_size fun c hc => ha c (List.mem_of_mem_take hc)]
  have := few_take hf k
  omega
theorem part_next {form : ByteArray} {l : List ChkR} {k : Nat} (hk : k < l.length) : hdT form l ++ bodyT (l.take k) ++ l[k].typ ++ bytesS l[k].dat.size 4 false ++ l[k].dat ++ oddT l[k].dat.size = hdT form l ++ bodyT (l.take (k + 1)) := by
  rw [bodyT_take hk, chkT]
  simp only [app_as]
set_option maxRecDepth 100000 in
set_option maxHeartbeats 8000000 in
theorem join_any (form : ByteArray) (hfz : form.size ≤ 9223372036854775807) (a : Option Addr) (len c : Nat) (hlen : len ≤ 9223372036854775807) (l : List ChkR) (hll : Hid (l.length = len)) (hf : Few l) (w : World) (ha : ChkAt w a l) :
    Calls Tryd.prog 14 #[.string form, .slice a len c] w fun e w' => e = .returned (.tuple #[.string (joinP form l).1, .int .i64 (joinP form l).2]) ∧ Bw w w' := by
  have HA := hid ha
  have HF := hid hf
  have HSZ := hid (sizeOf_any a len c hlen l hll hf w ha)
  have HTY := hid (fun W => isType_any form hfz W)
  have hl50 : len ≤ 50 := by rw [← hll.out]; exact hf.1
  have hs9 := few_sum hf
  clear ha hf
  obtain ⟨sz, hsz⟩ : ∃ sz, 12 + sumP l = sz := ⟨_, rfl⟩
  rw [hsz] at HSZ
  have hsz9 : sz ≤ 1000462 ∧ 12 ≤ sz := by omega
  have HZ := hid hsz
  clear hsz hs9
  cases hty : typB form with
  | false =>
    rw [hty] at HTY
    have HJ := hid (joinB_no (l := l) hty)
    go_enter Tryd.func14, Tryd.ntmps14
    go_wp2_with fail
    refine HSZ.out.mono ?_
    rintro e w2 ⟨rfl, hb2⟩
    go_wp2_with fail
    refine (HTY.out _).mono ?_
    rintro e w3 ⟨rfl, hb3⟩
    have HB3 := hid (hb2.trans hb3)
    clear hb2 hb3
    go_wp2
    go_returns
    exact ⟨by rw [HJ.out]; rfl, HB3.out⟩
  | true =>
    rw [hty] at HTY
    have HT := hid hty
    clear hty
    go_enter Tryd.func14, Tryd.ntmps14
    go_wp2_with fail
    refine HSZ.out.mono ?_
    rintro e w2 ⟨rfl, hb2⟩
    go_wp2_with fail
    refine (HTY.out _).mono ?_
    rintro e w3 ⟨rfl, hb3⟩
    have HB3 := hid (hb2.trans hb3)
    clear hb2 hb3 HTY HSZ
    go_wp2
    go_loopw [27] (fun vi wr => ∃ k : Nat, k ≤ len ∧ vi = .int .i64 k ∧ Hid (∀ i (hi : i < l.length), i < k → typB l[i].typ = true) ∧ Bw w wr) (fun vi _ => len - (intOf vi).toNat)
    case atStart => exact ⟨0, Nat.zero_le _, rfl, hid (fun i hi h => absurd h (Nat.not_lt_zero i)), HB3.out⟩
    case round =>
      rename World => wr
      obtain ⟨k, hk, rfl, HR, hw⟩ := hrel
      have HW := hid hw
      by_cases hlt : k < len
      · have hk1 : (k : Int) < len := by omega
        obtain ⟨b1, o1, rfl, hb1, p0, p1, hok⟩ := HA.out.below hw k (by rw [hll.out]; exact hlt)
        clear hw
        have hkl : k < l.length := by rw [hll.out]; exact hlt
        have HT2 := hid (fun W => isType_any (l[k]'hkl).typ hok.1 W)
        clear hok
        have HA2 := hid (HW.out.alloc (.cells #[.string (l[k]'hkl).typ, .string (l[k]'hkl).dat] 42))
        cases ht : typB (l[k]'hkl).typ with
        | false =>
          have HJ := hid (joinB_bad (form := form) hkl ht)
          rw [ht] at HT2
          clear ht
          obtain ⟨x, hx⟩ : ∃ x, l[k]'hkl = x := ⟨_, rfl⟩
          rw [hx] at p0 p1 HT2 HA2
          clear hx
          go_wp2_with fail
          refine (HT2.out _).mono ?_
          rintro e w4 ⟨rfl, hb4⟩
          have HB4 := hid (HA2.out.trans hb4)
          clear hb4
          go_wp2
          go_returns
          exact ⟨by rw [HJ.out]; rfl, HB4.out⟩
        | true =>
          have HN := hid (all_snoc hkl HR.out ht)
          rw [ht] at HT2
          clear ht
          obtain ⟨x, hx⟩ : ∃ x, l[k]'hkl = x := ⟨_, rfl⟩
          rw [hx] at p0 p1 HT2 HA2
          clear hx
          go_wp2_with fail
          refine (HT2.out _).mono ?_
          rintro e w4 ⟨rfl, hb4⟩
          have HB4 := hid (HA2.out.trans hb4)
          clear hb4
          go_wp2
          exact ⟨⟨k + 1, by omega, by go_num, HN, HB4.out⟩, by simp [intOf]; omega⟩
      · obtain rfl : k = len := by omega
        have HAL := hid (all_list (l := l) (fun i hi _ => HR.out i hi (by rw [← hll.out]; exact hi)))
        have HJ := hid (joinB_ok HT.out HAL.out)
        clear hw HR
        have HP0 := hid (part_size HT.out HAL.out HF.out)
        have hB : w.heap.size ≤ wr.heap.size := HW.out.size
        have HF1 := hid (Bld.fresh wr w.heap.size hB)
        have HA1 := hid (HW.out.alloc (.cells #[.pointer none, .slice none 0 0] 57))
        have HN1 := hid (Has.new wr 57 #[.pointer none, .slice none 0 0])
        obtain ⟨b, hb⟩ : ∃ b, wr.heap.size = b := ⟨_, rfl⟩
        rw [hb] at HF1 HN1
        have hB1 : w.heap.size ≤ b := by omega
        have HGR := hid (fun W (h1 : w.heap.size ≤ W.heap.size) (h2 : Has W b 57 #[.pointer none, .slice none 0 0]) => grow_any w.heap.size b sz (by omega) W h1 h2 hB1)
        have HZS := hid hB
        have HDT := hid (show hdT form l = riffT ++ bytesS (4 + sumP l) 4 false ++ form from rfl)
        have HDZ := hid (hdT_size (l := l) HT.out)
        have HFZ := hid (typ_size HT.out)
        have HNB := hid (fun W => number4_any (4 + sumP l) (by have := HZ.out; omega) W)
        have HZ8 := hid (show ((4 + sumP l : Nat) : Int) = (sz : Int) - 8 by have := HZ.out; omega)
        rw [HZ8.out] at HNB
        obtain ⟨nt, hnt⟩ : ∃ nt, bytesS (4 + sumP l) 4 false = nt := ⟨_, rfl⟩
        have hnz : nt.size = 4 := by rw [← hnt]; exact bytesS_size _ _ _
        rw [hnt] at HNB HDT
        clear hnt
        obtain ⟨hd, hhd⟩ : ∃ hd, hdT form l = hd := ⟨_, rfl⟩
        rw [hhd] at HDT HDZ HP0
        have HHD := hid hhd
        clear hhd
        go_wp2_with fail
        clear hB hb
        refine (HGR.out _ HA1.out.size HN1.out).mono ?_
        rintro e w5 ⟨rfl, hbl5, hbw5⟩
        have HL5 := hid hbl5
        have HB5 := hid (show Bw w w5 from Below.trans HA1.out hbw5)
        clear hbl5 hbw5 HGR HF1 HN1 HA1
        have HW5 := hid (fun W (s t : ByteArray) (hst : s.size + t.size ≤ 2000000) (hBW : Bw w W) (hbl : Bld w.heap.size b true s W) => write_any w.heap.size b true s t (by omega) W hBW.size hbl)
        go_wp2_with fail
        refine (HW5.out w5 ⟨#[]⟩ ⟨#[82, 73, 70, 70]⟩ (by decide) HB5.out HL5.out).mono ?_
        rintro e w6 ⟨rfl, hbl6, hbw6⟩
        have HL6 := hid hbl6
        have HB6 := hid (show Bw w w6 from Below.trans HB5.out hbw6.1)
        clear hbl6 hbw6 HL5 HB5
        rw [nil_app] at HL6
        go_wp2_with fail
        refine (HNB.out _).mono ?_
        rintro e w7 ⟨rfl, hbw7⟩
        have HL7 := hid (HL6.out.bw hbw7)
        have HB7 := hid (HB6.out.trans hbw7)
        clear hbw7 HL6 HB6
        go_wp2_with fail
        refine (HW5.out w7 _ nt (by rw [hnz]; decide) HB7.out HL7.out).mono ?_
        rintro e w8 ⟨rfl, hbl8, hbw8⟩
        have HL8 := hid hbl8
        have HB8 := hid (show Bw w w8 from Below.trans HB7.out hbw8.1)
        clear hbl8 hbw8 HL7 HB7
        go_wp2_with fail
        refine (HW5.out w8 _ form (by rw [ByteArray.size_append, hnz, HFZ.out]; decide) HB8.out HL8.out).mono ?_
        rintro e w9 ⟨rfl, hbl9, hbw9⟩
        have HL9 := hid hbl9
        have HB9 := hid (show Bw w w9 from Below.trans HB8.out hbw9.1)
        clear hbl9 hbw9 HL8 HB8
        have HE9 := hid (show (⟨#[82, 73, 70, 70]⟩ : ByteArray) ++ nt ++ form = hd from HDT.out.symm)
        rw [HE9.out] at HL9
        clear HE9 HDT
        go_wp2
        go_loopw [47] (fun vi wr => ∃ j : Nat, j ≤ k ∧ vi = .int .i64 j ∧ Bld w.heap.size b true (hd ++ bodyT (l.take j)) wr ∧ Bw w wr) (fun vi _ => k - (intOf vi).toNat)
        case atStart => exact ⟨0, Nat.zero_le _, rfl, by rw [List.take_zero, bodyT, app_nil]; exact HL9.out, HB9.out⟩
        case round =>
          rename World => wq
          obtain ⟨j, hj, rfl, hbl, hw⟩ := hrel
          have HW := hid hw
          have HBL := hid hbl
          clear hbl
          by_cases hlt : j < k
          · have hk1 : (j : Int) < k := by omega
            obtain ⟨b1, o1, rfl, hb1, p0, p1, hok⟩ := HA.out.below hw j (by rw [hll.out]; exact hlt)
            clear hw hok
            have hkl : j < l.length := by rw [hll.out]; exact hlt
            have HPN := hid (part_next (form := form) hkl)
            have h4 := typ_size (HAL.out _ (List.getElem_mem hkl))
            have hdz := HF.out.2 _ (List.getElem_mem hkl)
            rw [HHD.out] at HPN
            obtain ⟨acc, hacc⟩ : ∃ acc, hd ++ bodyT (l.take j) = acc := ⟨_, rfl⟩
            have haz := HP0.out j
            obtain ⟨acc2, hacc2⟩ : ∃ acc, hd ++ bodyT (l.take (j + 1)) = acc := ⟨_, rfl⟩
            rw [hacc2] at HPN
            rw [hacc] at haz HPN HBL
            have HACC2 := hid hacc2
            clear hacc hacc2
            obtain ⟨x, hx⟩ : ∃ x, l[j]'hkl = x := ⟨_, rfl⟩
            rw [hx] at p0 p1 HPN h4 hdz
            clear hx
            obtain ⟨xt, xd⟩ := x
            simp only at p0 p1 HPN h4 hdz
            have HX := hid (Has.new wq 42 #[.string xt, .string xd])
            have HBA := hid (HW.out.alloc (.cells #[.string xt, .string xd] 42))
            have HLA := hid (HBL.out.bw ((Bw.refl wq).alloc (.cells #[.string xt, .string xd] 42)))
            have HNX := hid (fun W => number4_any xd.size (by omega) W)
            obtain ⟨nx, hnx⟩ : ∃ nx, bytesS xd.size 4 false = nx := ⟨_, rfl⟩
            have hnxz : nx.size = 4 := by rw [← hnx]; exact bytesS_size _ _ _
            rw [hnx] at HNX HPN
            clear hnx
            have hne : wq.heap.size ≠ b := by have := HBL.out.lt; omega
            obtain ⟨nb, hnb⟩ : ∃ nb, wq.heap.size = nb := ⟨_, rfl⟩
            rw [hnb] at HX hne
            go_wp2_with fail
            clear hnb
            refine (HW5.out _ acc xt (by omega) HBA.out HLA.out).mono ?_
            rintro e q1 ⟨rfl, hbl1, hbw1⟩
            have HL1 := hid hbl1
            have HB1 := hid (show Bw w q1 from Below.trans HBA.out hbw1.1)
            have HX1 := hid (hbw1.has HX.out hne (by decide))
            clear hbl1 hbw1 HBA HLA HX
            have e0 := HX1.out.cell 0
            have e1 := HX1.out.cell 1
            simp at e0 e1
            go_wp2_with fail
            clear e0 e1
            refine (HNX.out _).mono ?_
            rintro e q2 ⟨rfl, hbw2⟩
            have HL2 := hid (HL1.out.bw hbw2)
            have HB2 := hid (HB1.out.trans hbw2)
            have HX2 := hid (hbw2.has HX1.out)
            clear hbw2 HL1 HB1 HX1
            go_wp2_with fail
            refine (HW5.out _ _ nx (by rw [ByteArray.size_append]; omega) HB2.out HL2.out).mono ?_
            rintro e q3 ⟨rfl, hbl3, hbw3⟩
            have HL3 := hid hbl3
            have HB3' := hid (show Bw w q3 from Below.trans HB2.out hbw3.1)
            have HX3 := hid (hbw3.has HX2.out hne (by decide))
            clear hbl3 hbw3 HL2 HB2 HX2
            have e1 := HX3.out.cell 1
            simp at e1
            go_wp2_with fail
            clear e1
            refine (HW5.out _ _ xd (by rw [ByteArray.size_append, ByteArray.size_append]; omega) HB3'.out HL3.out).mono ?_
            rintro e q4 ⟨rfl, hbl4, hbw4⟩
            have HL4 := hid hbl4
            have HB4 := hid (show Bw w q4 from Below.trans HB3'.out hbw4.1)
            have HX4 := hid (hbw4.has HX3.out hne (by decide))
            clear hbl4 hbw4 HL3 HB3' HX3
            have e1 := HX4.out.cell 1
            simp at e1
            by_cases hodd : xd.size % 2 = 1
            · have e2 : ((xd.size : Int) % 2 == 1) = true := by rw [beq_iff_eq]; omega
              have HO := hid (show oddT xd.size = ⟨#[0]⟩ from if_pos hodd)
              rw [HO.out] at HPN
              have HWB := hid (wbyte_any w.heap.size b true (acc ++ xt ++ nx ++ xd) 0 (by rw [ByteArray.size_append, ByteArray.size_append, ByteArray.size_append]; omega) q4 HB4.out.size HL4.out)
              rw [HPN.out] at HWB
              clear hodd HO
              go_wp2_with fail
              refine HWB.out.mono ?_
              rintro e q5 ⟨rfl, hbl5, hbw5⟩
              have HL5 := hid hbl5
              have HB5 := hid (show Bw w q5 from Below.trans HB4.out hbw5.1)
              clear hbl5 hbw5
              go_wp2
              exact ⟨⟨j + 1, by omega, by go_num, by rw [HACC2.out]; exact HL5.out, HB5.out⟩, by simp [intOf]; omega⟩
            · have e2 : ((xd.size : Int) % 2 == 1) = false := by rw [beq_eq_false_iff_ne]; omega
              have HO := hid (show oddT xd.size = ⟨#[]⟩ from if_neg hodd)
              rw [HO.out, app_nil] at HPN
              rw [HPN.out] at HL4
              clear hodd HO
              go_wp2
              exact ⟨⟨j + 1, by omega, by go_num, by rw [HACC2.out]; exact HL4.out, HB4.out⟩, by simp [intOf]; omega⟩
          · obtain rfl : j = k := by omega
            have HSTR := hid (string_any w.heap.size b true _ wq HW.out.size HBL.out)
            have HEND := hid (show hd ++ bodyT (l.take j) = joinT form l from by rw [← hll.out, List.take_length, ← HHD.out]; rfl)
            rw [HEND.out] at HSTR
            clear hw
            go_wp2_with fail
            refine HSTR.out.mono ?_
            rintro e q1 ⟨rfl, hbw1⟩
            have HB1 := hid (show Bw w q1 from Below.trans HW.out hbw1.1)
            clear hbw1
            go_wp2
            go_returns
            exact ⟨by rw [HJ.out]; rfl, HB1.out⟩
end Go.Proofs.YtgkgimfdbkpbdaaDoor

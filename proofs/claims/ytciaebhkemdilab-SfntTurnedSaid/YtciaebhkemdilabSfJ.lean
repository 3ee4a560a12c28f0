/- Write (contract of the function). -/
import Derived.Test.YtciaebhkemdilabSfAB
import Derived.Test.YtciaebhkemdilabSfTI
import Derived.Test.YtciaebhkemdilabSfW
import Derived.Test.YtciaebhkemdilabShelfSf
import Derived.Test.YtciaebhkemdilabBldX
import Derived.Deep.RegionLaw
import Derived.BigQuiet
namespace Go.Proofs.Ytciaebhkemdilab
open Go.RowKit
set_option linter.unusedVariables false
set_option linter.unusedSimpArgs false
theorem BKeeps.has {B b g : Nat} {t : TypeId} {cs : Array Value} {w w' : World} (h : BKeeps B b w w') (k : Has w g t cs) (hg : g ≠ b) (ht : t ≠ 5) : Has w' g t cs :=
  (h.2.2 g k.lt hg fun cs' fr e => by
    unfold Has at k
    rw [k] at e
    injection e with e
    injection e with _ e
    exact ht e).trans k
theorem Bld.bw {B b : Nat} {u : Bool} {s : ByteArray} {w w' : World} (h : Bld B b u s w) (hb : Bw w w') : Bld B b u s w' := by
  obtain ⟨h1, v, h2, h3⟩ := h
  exact ⟨h1, v, hb.has h2, hb.own h3⟩
theorem Bld.lt {B b : Nat} {u : Bool} {s : ByteArray} {w : World} (h : Bld B b u s w) : b < w.heap.size := by
  obtain ⟨h1, v, h2, h3⟩ := h
  exact h2.lt
def writeP (l : List ChkR) (k : Nat) : ByteArray × Int := if writeOk l k then (writeT l k, 0) else (⟨#[]⟩, 1)
theorem writeP_kind {l : List ChkR} {k : Nat} (h : kindB k = false) : writeP l k = (⟨#[]⟩, 1) := by
  unfold writeP writeOk
  rw [h, Bool.false_and, if_neg (by decide)]
theorem writeP_may {l : List ChkR} {k : Nat} (h : mayB l = false) : writeP l k = (⟨#[]⟩, 1) := by
  unfold writeP writeOk
  rw [h, Bool.and_false, if_neg (by decide)]
theorem writeP_ok {l : List ChkR} {k : Nat} (h1 : kindB k = true) (h : mayB l = true) : writeP l k = (writeT l k, 0) := by
  unfold writeP writeOk
  rw [h, h1, if_pos (by decide)]
theorem rep_zeros (c : Nat) : (⟨(Lib.repeatL [0] c).toArray⟩ : ByteArray) = zerosT c := by
  unfold zerosT
  congr 2
  induction c with
  | zero => rfl
  | succ c ih => rw [Lib.repeatL, ih]; rfl
def wdA (l : List ChkR) (k j : Nat) : ByteArray := headT k l.length ++ rowsN l l.length j
def wdB (l : List ChkR) (k j : Nat) : ByteArray := headT k l.length ++ rowsN l l.length l.length ++ datsN l j
theorem wdA_0 (l : List ChkR) (k : Nat) : wdA l k 0 = headT k l.length := app_nil _
theorem wdA_succ (l : List ChkR) (k j : Nat) : wdA l k j ++ rowT (tb l j) (eAt l.length + offN l j) = wdA l k (j + 1) := app_as _ _ _
theorem wdB_0 (l : List ChkR) (k : Nat) : wdB l k 0 = wdA l k l.length := app_nil _
theorem wdB_succ (l : List ChkR) (k j : Nat) : wdB l k j ++ (tb l j).dat ++ zerosT (up4 (tb l j).dat.size - (tb l j).dat.size) = wdB l k (j + 1) := by
  show headT k l.length ++ rowsN l l.length l.length ++ datsN l j ++ (tb l j).dat ++ zerosT (up4 (tb l j).dat.size - (tb l j).dat.size) = headT k l.length ++ rowsN l l.length l.length ++ (datsN l j ++ ((tb l j).dat ++ zerosT (up4 (tb l j).dat.size - (tb l j).dat.size)))
  simp only [app_as]
theorem wdA_size {l : List ChkR} (h : MayL l) (k : Nat) {j : Nat} (hj : j ≤ l.length) : (wdA l k j).size = 12 + 16 * j := by
  unfold wdA
  rw [ByteArray.size_append, headT_size, rowsN_size _ (fun i hi => h.tag i (by omega))]
theorem wdB_size {l : List ChkR} (h : MayL l) (k j : Nat) : (wdB l k j).size = eAt l.length + offN l j := by
  unfold wdB eAt
  rw [ByteArray.size_append, ByteArray.size_append, headT_size, rowsN_size _ h.tag, datsN_size]
theorem may_of {l : List ChkR} (h : mayB l = true) : MayL l := of_decide_eq_true h
set_option maxRecDepth 100000 in
set_option maxHeartbeats 16000000 in
theorem swrite_any (kd : Nat) (hkd : kd < 4294967296) (a : Option Addr) (len c : Nat) (hlen : len ≤ 9223372036854775807) (l : List ChkR) (hll : Hid (l.length = len)) (w : World) (ha : ChkAt w a l) :
    Calls Try.prog 8 #[.int .u32 kd, .slice a len c] w fun e w' => e = .returned (.tuple #[.string (writeP l kd).1, .int .i64 (writeP l kd).2]) ∧ Bw w w' := by
  have HA := hid ha
  have HKD := hid (fun W => kind_any kd W)
  have HVA := hid (valid_any a len c hlen l hll w ha)
  clear ha
  cases hk : kindB kd with
  | false =>
    rw [hk] at HKD
    have HJ := hid (writeP_kind (l := l) hk)
    clear hk HVA
    go_enter Try.func8, Try.ntmps8
    go_wp2_with fail
    refine (HKD.out _).mono ?_
    rintro e w2 ⟨rfl, rfl⟩
    go_wp2
    go_returns
    exact ⟨by rw [HJ.out]; rfl, Bw.refl w⟩
  | true =>
    rw [hk] at HKD
    cases hm : mayB l with
    | false =>
      rw [hm] at HVA
      have HJ := hid (writeP_may (k := kd) hm)
      clear hk hm
      go_enter Try.func8, Try.ntmps8
      go_wp2_with fail
      refine (HKD.out _).mono ?_
      rintro e w2 ⟨rfl, rfl⟩
      go_wp2_with fail
      refine HVA.out.mono ?_
      rintro e w3 ⟨rfl, hb3⟩
      have HB3 := hid hb3
      clear hb3
      go_wp2
      go_returns
      exact ⟨by rw [HJ.out]; rfl, HB3.out⟩
    | true =>
      rw [hm] at HVA
      have HJ := hid (writeP_ok hk hm)
      have HML := hid (may_of hm)
      clear hk hm
      have hn1 : 1 ≤ len := by rw [← hll.out]; exact HML.out.one
      have hn9 : len ≤ 1000 := by rw [← hll.out]; exact HML.out.few
      have HLD := hid (fun W => lead_any kd len hkd hn1 hn9 W)
      have HH0 := hid (show headT kd len = wdA l kd 0 from by rw [wdA_0, hll.out])
      rw [HH0.out] at HLD
      clear HH0
      go_enter Try.func8, Try.ntmps8
      go_wp2_with fail
      refine (HKD.out _).mono ?_
      rintro e w2 ⟨rfl, rfl⟩
      go_wp2_with fail
      refine HVA.out.mono ?_
      rintro e w3 ⟨rfl, hb3⟩
      have HB3 := hid hb3
      clear hb3 HKD HVA
      have hB : w.heap.size ≤ w3.heap.size := HB3.out.size
      have HF1 := hid (Bld.fresh w3 w.heap.size hB)
      have HA1 := hid (HB3.out.alloc (.cells #[.pointer none, .slice none 0 0] 43))
      obtain ⟨b, hb⟩ : ∃ b, w3.heap.size = b := ⟨_, rfl⟩
      rw [hb] at HF1
      have HZA := hid (fun j => wdA_size HML.out kd (j := j))
      have HW5 := hid (fun W (s t : ByteArray) u (hst : s.size + t.size ≤ 2000000000) (hBW : Bw w W) (hbl : Bld w.heap.size b u s W) => write_any w.heap.size b u s t (by omega) W hBW.size hbl)
      have hz0 : (wdA l kd 0).size = 12 := HZA.out 0 (Nat.zero_le _)
      go_wp2_with fail
      clear hB hb
      refine (HLD.out _).mono ?_
      rintro e w4 ⟨rfl, hb4⟩
      have HB4 := hid (HA1.out.trans hb4)
      have HL4 := hid (HF1.out.bw hb4)
      clear hb4 HF1 HA1 HLD
      go_wp2_with fail
      refine (HW5.out w4 ⟨#[]⟩ _ _ (by rw [hz0]; decide) HB4.out HL4.out).mono ?_
      rintro e w5 ⟨rfl, hbl5, hbw5⟩
      have HL5 := hid hbl5
      have HB5 := hid (show Bw w w5 from Below.trans HB4.out hbw5.1)
      clear hbl5 hbw5 HL4 HB4 hz0
      rw [nil_app] at HL5
      have hm16 : IntKind.i64.wrap ((len : Int) * 16) = ((16 * len : Nat) : Int) := by rw [IntWalk.i64_in _ (by omega)]; omega
      have ha12 : IntKind.i64.wrap (12 + ((16 * len : Nat) : Int)) = ((eAt len + offN l 0 : Nat) : Int) := by rw [IntWalk.i64_in _ (by omega)]; unfold eAt offN; omega
      have h16 : ((16 * len : Nat) : Int) = (len : Int) * 16 := by omega
      rw [h16] at ha12 hm16
      clear h16
      obtain ⟨a0, ha0⟩ : ∃ a0, eAt len + offN l 0 = a0 := ⟨_, rfl⟩
      rw [ha0] at ha12
      go_wp2
      go_loopw [7, 33] (fun va vi wr => ∃ j : Nat, j ≤ len ∧ vi = .int .i64 j ∧ va = .int .i64 (eAt len + offN l j : Nat) ∧ Hid (Bld w.heap.size b true (wdA l kd j) wr) ∧ Bw w wr) (fun _ vi _ => len - (intOf vi).toNat)
      case atStart => exact ⟨0, Nat.zero_le _, rfl, by rw [ha0], HL5, HB5.out⟩
      case round =>
        rename World => wr
        obtain ⟨j, hj, rfl, rfl, HBL, hw⟩ := hrel
        have HW := hid hw
        clear ha12 ha0 hm16
        by_cases hlt : j < len
        · have hk1 : (j : Int) < len := by omega
          have hkl : j < l.length := by rw [hll.out]; exact hlt
          obtain ⟨b1, o1, rfl, hb1, p0, p1, hok⟩ := HA.out.below hw j hkl
          clear hw hok
          have htb : tb l j = l[j]'hkl := tb_get hkl
          rw [← htb] at p0 p1
          clear htb
          have HPN := hid (show wdA l kd j ++ rowT (tb l j) (eAt len + offN l j) = wdA l kd (j + 1) from by rw [← hll.out]; exact wdA_succ l kd j)
          have hz := HZA.out j (by omega)
          have htg := HML.out.tag j hkl
          have hd := HML.out.big j hkl
          have hofj : offN l j < 1073741824 := by have := offN_mono l (show j ≤ l.length by omega); have := HML.out.all; omega
          have HO1 := hid (show eAt len + offN l (j + 1) = eAt len + offN l j + up4 (tb l j).dat.size from by rw [offN]; omega)
          obtain ⟨x, hx⟩ : ∃ x, tb l j = x := ⟨_, rfl⟩
          rw [hx] at p0 p1 HPN htg hd HO1
          clear hx
          obtain ⟨t, d⟩ := x
          simp only at p0 p1 HPN htg hd HO1
          have h4 := typ_size htg
          have he9 : eAt len ≤ 16012 := by unfold eAt; omega
          obtain ⟨p, hp⟩ : ∃ p, eAt len + offN l j = p := ⟨_, rfl⟩
          rw [hp] at HPN HO1
          rw [hp]
          have hp9 : p < 1073757836 := by omega
          have HRT := hid (show t ++ bytesS (wrdT d) 4 true ++ bytesS p 4 true ++ bytesS d.size 4 true = rowT ⟨t, d⟩ p from rfl)
          have hrz := rowT_size (x := ⟨t, d⟩) htg p
          have HWD := hid (fun W => (show Calls Try.prog 11 #[.string d] W fun e w' => e = .returned (.int .u32 (wrdT d : Nat)) ∧ W = w' from words_any d (by unfold lim; omega) W))
          have hwl := wrdT_lt d
          obtain ⟨wd, hwd⟩ : ∃ wd, wrdT d = wd := ⟨_, rfl⟩
          rw [hwd] at HWD hwl HRT
          have HTX := hid (fun W => text_entry t h4 wd p d.size hwl (by omega) (by omega) W)
          rw [HRT.out] at HTX
          obtain ⟨rt, hrt⟩ : ∃ rt, rowT ⟨t, d⟩ p = rt := ⟨_, rfl⟩
          rw [hrt] at hrz HTX HPN
          clear hrt hwd HRT hp
          have HPD := hid (fun W => padded_any d.size (by omega) W)
          have hu := up4_lt d.size
          obtain ⟨ud, hud⟩ : ∃ ud, up4 d.size = ud := ⟨_, rfl⟩
          rw [hud] at HPD HO1 hu
          clear hud
          obtain ⟨acc, hacc⟩ : ∃ acc, wdA l kd j = acc := ⟨_, rfl⟩
          rw [hacc] at hz HPN HBL
          obtain ⟨acc2, hacc2⟩ : ∃ acc, wdA l kd (j + 1) = acc := ⟨_, rfl⟩
          rw [hacc2] at HPN
          have HACC2 := hid hacc2
          clear hacc hacc2
          have HX := hid (Has.new wr 35 #[.string t, .string d])
          have HBA := hid (HW.out.alloc (.cells #[.string t, .string d] 35))
          have HLA := hid (HBL.out.bw ((Bw.refl wr).alloc (.cells #[.string t, .string d] 35)))
          have hne : wr.heap.size ≠ b := by have := HBL.out.lt; omega
          obtain ⟨nb, hnb⟩ : ∃ nb, wr.heap.size = nb := ⟨_, rfl⟩
          rw [hnb] at HX hne
          go_upto_region 9 with fail
          generalize wr.alloc (.cells #[.string t, .string d] 35) = wa at *
          have e0 : wa.cell? ⟨nb, 0, none⟩ = some (.string t) := HX.out.cell 0
          have e1 : wa.cell? ⟨nb, 1, none⟩ = some (.string d) := HX.out.cell 1
          have d0 : wa.drew.cell? ⟨nb, 0, none⟩ = some (.string t) := HX.out.cell 0
          have d1 : wa.drew.cell? ⟨nb, 1, none⟩ = some (.string d) := HX.out.cell 1
          clear hnb HBL HW p0 p1
          go_upto_region 10 with fail
          go_cut [] (fun W => Hid (Bld w.heap.size b true acc2 W) ∧ Has W nb 35 #[.string t, .string d] ∧ Bw w W)
          case first =>
            have HB0 := hid (show Bw w wa.drew from HBA.out.drewN 1)
            have HL0 := hid (HLA.out.bw ((Bw.refl wa).drewN 1))
            have HX0 := hid (show Has wa.drew nb 35 #[.string t, .string d] from HX.out.drew)
            clear HBA HLA HX
            go_region_law (go_simp; first | (go_at_call 11; refine (HWD.out _).mono ?_; rintro e w6 ⟨rfl, rfl⟩) | (go_at_call 17; refine (HTX.out _).mono ?_; rintro e w6 ⟨rfl, hb6⟩; have HB6 := hid (HB0.out.trans hb6); have HL6 := hid (HL0.out.bw hb6); have HX6 := hid (hb6.has HX0.out); clear hb6) | (go_at_call 15; refine (HW5.out w6 acc rt true (by rw [hz, hrz]; omega) HB6.out HL6.out).mono ?_; rintro e w7 ⟨rfl, hbl7, hbw7⟩))
            all_goals
              rw [HPN.out] at hbl7
              have HL7 := hid hbl7
              have HX7 := hid (hbw7.has HX6.out hne (by decide))
              have HB7 := hid (show Bw w w7 from Below.trans HB6.out hbw7.1)
              clear hbl7 hbw7
              go_wp2
              go_meet
              exact ⟨HL7, HX7.out, HB7.out⟩
          case rest =>
            rename World => wq
            obtain ⟨HL8, hx8, hb8⟩ := hcut
            have HX8 := hid hx8
            have HB8 := hid hb8
            have e0 : wq.cell? ⟨nb, 0, none⟩ = some (.string t) := HX8.out.cell 0
            have e1 : wq.cell? ⟨nb, 1, none⟩ = some (.string d) := HX8.out.cell 1
            clear hx8 hb8 HBA HLA HX HTX HWD HW5
            have v1 : IntKind.i64.wrap ((p : Int) + (ud : Int)) = ((p + ud : Nat) : Int) := by rw [IntWalk.i64_in _ (by omega)]; omega
            go_wp2_with fail
            refine (HPD.out _).mono ?_
            rintro e w9 ⟨rfl, rfl⟩
            go_wp2
            exact ⟨⟨j + 1, by omega, by go_num, by rw [HO1.out, Int.natCast_add], by rw [HACC2.out]; exact HL8, HB8.out⟩, by simp [intOf]; omega⟩
        · obtain rfl : j = len := by omega
          clear hlt
          have hzl : (wdA l kd j).size = 12 + 16 * j := HZA.out j (by rw [hll.out]; exact Nat.le_refl _)
          have HBE := hid (show wdB l kd 0 = wdA l kd j from by rw [wdB_0, hll.out])
          rw [← HBE.out] at HBL hzl
          have HZB := hid (fun i => wdB_size HML.out kd i)
          have hofn : offN l j < 1073741824 := by have := HML.out.all; rw [hll.out] at this; exact this
          have HLEN := hid (bldlen_any w.heap.size b true (wdB l kd 0) wr HBL.out)
          have HGR := hid (grows_any w.heap.size b (offN l j) (wdB l kd 0) (by omega) (by omega) wr HW.out.size HBL.out)
          rw [hzl] at HLEN
          have v1 : IntKind.i64.wrap (((eAt j + offN l j : Nat) : Int) - ((12 + 16 * j : Nat) : Int)) = ((offN l j : Nat) : Int) := by rw [IntWalk.i64_in _ (by unfold eAt; omega)]; unfold eAt; omega
          obtain ⟨of, hof⟩ : ∃ of, offN l j = of := ⟨_, rfl⟩
          rw [hof] at v1 HGR hofn
          rw [hof]
          obtain ⟨at1, hat1⟩ : ∃ x, eAt j + of = x := ⟨_, rfl⟩
          rw [hat1] at v1
          rw [hat1]
          obtain ⟨z1, hz1⟩ : ∃ x, 12 + 16 * j = x := ⟨_, rfl⟩
          rw [hz1] at v1 HLEN
          clear hat1 hz1 hzl hw
          go_wp2_with fail
          refine HLEN.out.mono ?_
          rintro e w6 ⟨rfl, rfl⟩
          go_wp2_with fail
          refine HGR.out.mono ?_
          rintro e w7 ⟨rfl, hbl7, hbw7⟩
          have HL7 := hid hbl7
          have HB7 := hid (show Bw w w7 from Below.trans HW.out hbw7.1)
          clear hbl7 hbw7 HBL HW HGR HLEN v1
          go_wp2
          go_loopw [61] (fun vi wr => ∃ i : Nat, i ≤ j ∧ vi = .int .i64 i ∧ Hid (Bld w.heap.size b true (wdB l kd i) wr) ∧ Bw w wr) (fun vi _ => j - (intOf vi).toNat)
          case atStart => exact ⟨0, Nat.zero_le _, rfl, HL7, HB7.out⟩
          case round =>
            rename World => wq
            obtain ⟨i, hi, rfl, HBL, hw⟩ := hrel
            have HW := hid hw
            by_cases hlt : i < j
            · have hk1 : (i : Int) < j := by omega
              have hkl : i < l.length := by rw [hll.out]; exact hlt
              obtain ⟨b1, o1, rfl, hb1, p0, p1, hok⟩ := HA.out.below hw i hkl
              clear hw hok
              have htb : tb l i = l[i]'hkl := tb_get hkl
              rw [← htb] at p0 p1
              clear htb
              have HPN := hid (wdB_succ l kd i)
              have hz := HZB.out i
              have hofj : offN l i < 1073741824 := by have := offN_mono l (show i ≤ l.length by omega); have := HML.out.all; omega
              have hd := HML.out.big i hkl
              have he9 : eAt l.length ≤ 16012 := by rw [hll.out]; unfold eAt; omega
              have hz9 : (wdB l kd i).size ≤ 1073757836 := by omega
              clear hz he9 hofj
              obtain ⟨x, hx⟩ : ∃ x, tb l i = x := ⟨_, rfl⟩
              rw [hx] at p0 p1 HPN hd
              clear hx
              obtain ⟨t, d⟩ := x
              simp only at p0 p1 HPN hd
              have HPD := hid (fun W => padded_any d.size (by omega) W)
              have hu := up4_lt d.size
              have hu2 := up4_ge d.size
              obtain ⟨ud, hud⟩ : ∃ ud, up4 d.size = ud := ⟨_, rfl⟩
              rw [hud] at HPD HPN hu hu2
              clear hud
              obtain ⟨pd, hpd⟩ : ∃ pd, ud - d.size = pd := ⟨_, rfl⟩
              rw [hpd] at HPN
              have HRP := hid (fun W => lib_Repeat pd (by omega) W)
              rw [rep_zeros pd] at HRP
              have hzz := zerosT_size pd
              obtain ⟨zs, hzs⟩ : ∃ zs, zerosT pd = zs := ⟨_, rfl⟩
              rw [hzs] at HPN HRP hzz
              clear hzs
              have v1 : IntKind.i64.wrap ((ud : Int) - (d.size : Int)) = (pd : Int) := by rw [IntWalk.i64_in _ (by omega)]; omega
              obtain ⟨acc, hacc⟩ : ∃ acc, wdB l kd i = acc := ⟨_, rfl⟩
              rw [hacc] at hz9 HPN HBL
              obtain ⟨acc2, hacc2⟩ : ∃ acc, wdB l kd (i + 1) = acc := ⟨_, rfl⟩
              rw [hacc2] at HPN
              have HACC2 := hid hacc2
              clear hacc hacc2
              have HX := hid (Has.new wq 35 #[.string t, .string d])
              have HBA := hid (HW.out.alloc (.cells #[.string t, .string d] 35))
              have HLA := hid (HBL.out.bw ((Bw.refl wq).alloc (.cells #[.string t, .string d] 35)))
              have hne : wq.heap.size ≠ b := by have := HBL.out.lt; omega
              obtain ⟨nb, hnb⟩ : ∃ nb, wq.heap.size = nb := ⟨_, rfl⟩
              rw [hnb] at HX hne
              go_upto_region 17 with fail
              generalize wq.alloc (.cells #[.string t, .string d] 35) = wa at *
              have e1 : wa.cell? ⟨nb, 1, none⟩ = some (.string d) := HX.out.cell 1
              clear hnb HBL HW p0 p1
              have hdz : acc.size + d.size ≤ 2000000000 := by omega
              go_wp2_with fail
              refine (HW5.out _ acc d true hdz HBA.out HLA.out).mono ?_
              rintro e q1 ⟨rfl, hbl1, hbw1⟩
              have HL1 := hid hbl1
              have HB1 := hid (show Bw w q1 from Below.trans HBA.out hbw1.1)
              clear hbl1 hbw1 HBA HLA HX
              go_wp2_with fail
              refine (HPD.out _).mono ?_
              rintro e q2 ⟨rfl, rfl⟩
              go_wp2_with fail
              refine (HRP.out _).mono ?_
              rintro e q3 ⟨rfl, hb3⟩
              have HB3 := hid (HB1.out.trans hb3)
              have HL3 := hid (HL1.out.bw hb3)
              clear hb3 HB1 HL1
              go_wp2_with fail
              refine (HW5.out _ _ zs true (by rw [ByteArray.size_append, hzz]; omega) HB3.out HL3.out).mono ?_
              rintro e q4 ⟨rfl, hbl4, hbw4⟩
              rw [HPN.out] at hbl4
              have HL4 := hid hbl4
              have HB4 := hid (show Bw w q4 from Below.trans HB3.out hbw4.1)
              clear hbl4 hbw4 HL3 HB3
              go_wp2
              exact ⟨⟨i + 1, by omega, by go_num, by rw [HACC2.out]; exact HL4, HB4.out⟩, by simp [intOf]; omega⟩
            · obtain rfl : i = j := by omega
              have HSTR := hid (string_any w.heap.size b true _ wq HW.out.size HBL.out)
              have HEND := hid (show wdB l kd i = writeT l kd from by rw [← hll.out]; rfl)
              rw [HEND.out] at HSTR
              clear hw
              go_wp2_with fail
              refine HSTR.out.mono ?_
              rintro e q1 ⟨rfl, hbw1⟩
              have HB1 := hid (show Bw w q1 from Below.trans HW.out hbw1.1)
              clear hbw1
              go_wp2
              go_returns
              exact ⟨by rw [HJ.out]; rfl, HB1.out⟩
end Go.Proofs.Ytciaebhkemdilab

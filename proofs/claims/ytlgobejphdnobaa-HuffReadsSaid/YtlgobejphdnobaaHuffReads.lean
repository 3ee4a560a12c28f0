/- HuffReads returns true for every list of ints and every text, and changes nothing that was there; no condition. -/
import Derived.Test.YtlgobejphdnobaaHufL0
import Derived.Test.YtlgobejphdnobaaHufK
import Derived.Test.YtlgobejphdnobaaZsKit
import Derived.SizedLaws
import Derived.Test.YtlgobejphdnobaaHufV
import Derived.Test.YtlgobejphdnobaaHufW
import Derived.ProofKit
import Derived.OpenShut
import Derived.ShutString
import Derived.ChangeOld
namespace Go.Proofs.Ytlgobejphdnobaa.huffReads
open Go.RowKit Go.ChangeShapes Go.WideShapes Go.ChangeAt
set_option linter.unusedVariables false
open Go.ChangeMaps (open_string shut_string)
theorem str_le {s : ByteArray} (h : s.data.toList.length ≤ reachBytes) : s.size ≤ 140737488351232 := by
  have h4 : s.size = s.data.toList.length := by simp
  have h5 : reachBytes = 140737488351232 := by decide
  omega
theorem TabOf.keeps {F : Nat → Prop} {B tb : Nat} {l : List Int} {w w' : World} (h : TabOf w B tb l) (hk : Keeps F w w') (hF : ∀ i, F i → i < B) : TabOf w' B tb l := by
  obtain ⟨P, h1, h2, h3, v, h4, h5⟩ := h
  exact ⟨P, h1, h2, h3, v, hk.has h4 (fun hf => by have := hF _ hf; omega), own_keep h5 fun b hb => hk.block b (own_lt h5 hb) (fun hf => by have := hF _ hf; have := own_ge h5 hb; omega)⟩

set_option maxRecDepth 100000 in
set_option maxHeartbeats 8000000 in
theorem walk (a : Option Addr) (len cap : Nat) (hA : a = none → cap = 0) (hb8 : len * 8 ≤ 140737488355328) (l : List Int) (hll : Hid (l.length = len)) (s : ByteArray) (hs : s.size ≤ 281474976710656) (w : World) (hst : ZsAt w a l) :
    Calls Try.prog 4 #[.slice a len cap, .string s] w fun e w' => e = .returned (.bool true) ∧ Bw w w' := by
  have HL := hid live_any
  have HST := hid hst
  have hls : len < 4611686018427387904 := by omega
  by_cases hE : checkE l = 0
  · have hco := IsCode.of_check hE
    have HCO := hid hco
    have HEE := hid hE
    clear hst hE hco
    go_enter Try.func4, Try.ntmps4
    go_wp2_with (at_builtin; refine wpList_app_zs rfl _ _ rfl rfl rfl hA HST.out hll.out hb8 ?_; intro v' w1 hown hbw; obtain ⟨ao, ac, rfl⟩ := own_slice hown; have HO := hid hown; have HB1 := hid hbw; clear hown hbw)
    refine (new_ok ao len ac l hll HEE.out w1 (zs_own HO.out hll.out)).mono ?_
    rintro e w2 ⟨tb, rfl, htb, hT, hb⟩
    have HT := hid hT
    have HB2 := hid hb
    clear hT hb
    go_wp2_with fail
    refine (rcodes_ok a len cap l hll HEE.out w2 (HST.out.bw (HB1.out.trans HB2.out))).mono ?_
    rintro e w3 ⟨rb, rfl, hrb, hc, hb⟩
    have HB3 := hid hb
    have HC3 := hid hc
    clear hb hc
    go_wp2_with fail
    refine (HL.out _).mono ?_
    rintro e w4 ⟨rfl, hb⟩
    have HB4 := hid hb
    clear hb
    have hw12 := HB2.out.size
    have HO4 := hid (((HB2.out.trans HB3.out).trans HB4.out).own HO.out)
    have HT4 := hid ((HT.out.bw HB3.out).bw HB4.out)
    have HC4 := hid (HB4.out.has HC3.out)
    have HBW4 := hid (HB1.out.trans ((HB2.out.trans HB3.out).trans HB4.out))
    have HOB := hid (fun b (hb : (Value.slice ao len ac).ownBlock = some b) => (⟨own_ge HO.out hb, own_lt HO.out hb⟩ : w.heap.size ≤ b ∧ b < w1.heap.size))
    clear HO HT HC3 HB1 HB2 HB3 HB4
    go_wp2_with fail
    go_loopw [10] (fun i wr => ∃ (j : Nat) (ys : List Value), j ≤ len ∧ i = .int .i64 j ∧ wr.ownsRow w.heap.size 3 1 (.slice ao len ac) len ys ∧ Keeps (fun b => (Value.slice ao len ac).ownBlock = some b) w4 wr) (fun i _ => len - (intOf i).toNat)
    case atStart => exact ⟨0, _, Nat.zero_le _, rfl, HO4.out, Keeps.refl _ _⟩
    case round =>
      obtain ⟨j, ys, hj, rfl, hown, hkp⟩ := hrel
      have HOW := hid hown
      have HKP := hid hkp
      by_cases hlt : j < len
      · have hlti : (j : Int) < len := by omega
        obtain ⟨ob, cp, hv⟩ := own_some hown (by omega)
        obtain ⟨rfl, rfl⟩ : ao = some ⟨ob, 0, none⟩ ∧ ac = cp := by simpa using hv
        have hyl : j < ys.length := by have := hown.1; omega
        obtain ⟨y0, c0⟩ : ∃ y, _ = some y := ⟨_, ownp_cell hown (List.getElem?_eq_getElem hyl)⟩
        have f0 := ownp_frozen hown j
        have HO5 := hid (ownp_set hown j (.int .i64 3))
        have HK5 := hid (hkp.setCell (p := ⟨ob, j, none⟩) (.inl rfl) (.int .i64 3))
        clear hv hown hkp hyl
        go_wp2
        go_roundw
        case rel => exact ⟨j + 1, _, by omega, by go_num, HO5.out, HK5.out⟩
        case measure => simp [intOf]; omega
      · have hnj : ¬ (j : Int) < len := by omega
        have HFB := hid (fun b (hb : (Value.slice ao len ac).ownBlock = some b) => HOB.out b hb)
        have HT5 := hid (TabOf.keeps HT4.out HKP.out (fun i hi => (HFB.out i hi).2))
        have HC5 := hid (HKP.out.has HC4.out (fun hi => by have := (HFB.out _ hi).2; omega))
        have HBW5 := hid (show Bw w wr from Below.trans HBW4.out (HKP.out.below HBW4.out.size (fun i hi => (HFB.out i hi).1)))
        have HS5 := hid (HST.out.bw HBW5.out)
        clear hown hkp HOW HKP HT4 HC4 HO4
        go_wp2_with fail
        refine (newR_any s wr).mono ?_
        rintro e w6 ⟨rfl, hr, hb, hsz⟩
        have HR := hid hr
        have HB6 := hid hb
        clear hr hb
        go_wp2_with fail
        have HX7 := hid (show Rx (w6.alloc (.cells #[.string s, .int .i64 0] 37)) w6.heap.size s 0 from Has.new w6 _ _)
        have HR7 := hid (HR.out.alloc (.cells #[.string s, .int .i64 0] 37))
        have HB7 := hid (HB6.out.alloc (.cells #[.string s, .int .i64 0] 37))
        obtain ⟨g, hg⟩ : ∃ g, wr.heap.size = g := ⟨_, rfl⟩
        obtain ⟨gx, hgx⟩ : ∃ gx, w6.heap.size = gx := ⟨_, rfl⟩
        rw [hg] at hsz HR7 ⊢
        rw [hgx] at hsz HX7 ⊢
        have HG := hid hg
        have HAG := hid (fun b off (e : a = some ⟨b, off, none⟩) (h : 0 < l.length) => (by
          obtain ⟨b', off', e', h3, _⟩ := HS5.out 0 h
          rw [e] at e'
          injection e' with e'
          injection e' with e' _
          omega : ¬ b = gx))
        clear hg hgx HR HB6
        generalize w6.alloc (.cells #[.string s, .int .i64 0] 37) = W7 at *
        go_loopw [13] (fun i wq => ∃ (n k : Nat), n ≤ 200 ∧ i = .int .i64 n ∧ k ≤ 8 * s.size ∧ Rd wq g s k ∧ Rx wq gx s k ∧ Bw wr wq) (fun i _ => 200 - (intOf i).toNat)
        case atStart => exact ⟨0, 0, by omega, rfl, Nat.zero_le _, HR7.out, HX7.out, HB7.out⟩
        case round =>
          obtain ⟨n, k, hn, rfl, hk, hrd, hrx, hbq⟩ := hrel
          rename World => wq
          have HRD := hid hrd
          have HRX := hid hrx
          have HBQ := hid hbq
          clear hrd hrx hbq
          by_cases hlt2 : n < 200
          · have hlt2i : (n : Int) < 200 := by omega
            have h1 := next_any w1.heap.size tb g l HCO.out s hs k hk wq (HT5.out.bw HBQ.out) HRD.out
            unfold NextPost at h1
            have HNX := hid h1
            have hkk := nextK_le l s k hk
            have h2 := fun W h1 h2 => rnext_any a len cap rb len gx l hll HCO.out s hs k hk W (HS5.out.bw h1) HAG.out (h1.has HC5.out) h2
            unfold RNextPost at h2
            have HRN := hid h2
            clear h1 h2
            have hve : nextE l s k = 0 ∨ ¬ nextE l s k = 0 := Classical.em _
            generalize nextV l s k = v at *
            generalize nextE l s k = er at *
            generalize nextK l s k = k2 at *
            go_wp2_with fail
            refine HNX.out.mono ?_
            rintro e w8 ⟨rfl, hr8, hk8⟩
            have HB8 := hid (show Bw wr w8 from Below.trans HBQ.out (hk8.below HBQ.out.size (fun i hi => by have := HG.out; omega)))
            have HR8 := hid hr8
            have HX8 := hid (hk8.has HRX.out (show ¬ gx = g by omega))
            clear hr8 hk8 HNX
            go_wp2_with fail
            refine (HRN.out _ HB8.out HX8.out).mono ?_
            rintro e w9 ⟨rfl, hr9, hk9⟩
            have HB9 := hid (show Bw wr w9 from Below.trans HB8.out (hk9.below HB8.out.size (fun i hi => by have := HG.out; omega)))
            have HX9 := hid hr9
            have HR9 := hid (hk9.has HR8.out (show ¬ g = gx by omega))
            clear hr9 hk9 HRN
            have x9 : w9.cell? ⟨gx, 1, none⟩ = some (.int .i64 k2) := HX9.out.cell 1
            have f1 : ((v : Int) != (v : Int)) = false := by simp
            have f2 : (er != er) = false := by simp
            have f3 : ((k2 : Int) != (k2 : Int)) = false := by simp
            go_wp2_with fail
            go_quiet ((go_at_call 19; exact Calls.quiet_of_same (quiet_flip (at_any g s k2 _ HR9.out))))
            rcases hve with hve | hve
            · subst hve
              go_wp2
              go_roundw
              case rel => exact ⟨n + 1, k2, by omega, by go_num, hkk, HR9.out.drewN _, HX9.out.drewN _, HB9.out.drewN _⟩
              case measure => simp [intOf]; omega
            · have f4 : (er != 0) = true := by simpa using hve
              clear hve
              go_wp2
              go_returns
              exact ⟨rfl, HBW5.out.trans (HB9.out.drewN _)⟩
          · obtain rfl : n = 200 := by omega
            go_wp2
            go_returns
            exact ⟨rfl, HBW5.out.trans HBQ.out⟩
  · have HN := hid (fun W ao ac h => new_bad ao len ac l hll hE W h)
    have HC := hid (fun W h => rcodes_bad a len cap l hll hE W h)
    generalize checkE l = ce at *
    have hne : (ce != 0) = true := by simpa using hE
    have hne2 : (ce == 0) = false := by simpa using hE
    have hce : (ce != ce) = false := by simp
    clear hst hE
    go_enter Try.func4, Try.ntmps4
    go_wp2_with (at_builtin; refine wpList_app_zs rfl _ _ rfl rfl rfl hA HST.out hll.out hb8 ?_; intro v' w1 hown hbw; obtain ⟨ao, ac, rfl⟩ := own_slice hown; have HO := hid hown; have HB1 := hid hbw; clear hown hbw)
    refine (HN.out w1 ao ac (zs_own HO.out hll.out)).mono ?_
    rintro e w2 ⟨rfl, hb⟩
    have HB2 := hid (HB1.out.trans hb)
    clear hb
    go_wp2_with fail
    refine (HC.out w2 (HST.out.bw HB2.out)).mono ?_
    rintro e w3 ⟨rfl, hb⟩
    have HB3 := hid (HB2.out.trans hb)
    clear hb
    go_wp2_with fail
    refine (HL.out _).mono ?_
    rintro e w4 ⟨rfl, hb⟩
    have HB4 := hid (HB3.out.trans hb)
    clear hb
    go_wp2
    go_returns
    exact ⟨rfl, HB4.out⟩

/-! The frame: from the walk to the statement. -/
theorem own : ownKnob Try.prog.godebug = none := by kernel_rfl
theorem laidOut : laidOutB Try.prog = true := by kernel_rfl
set_option maxRecDepth 100000 in
theorem lifted (os : Os) (started : os.Started) (H : Type) (enc : TypeId × Value → H) :
    ReturnsInHanded {} Try.checked os 4 .any (Rows.huffReadsSpec.pre6 enc Try.prog Try.f4 Rows.huffReadsRow.domain false) (Rows.huffReadsSpec.post enc Try.prog Try.f4 false true false false) := by
  refine returnsInHanded_of_change_sized (C := Try.checked) own started (by kernel_rfl) Try.func4
    (ChangeSpec.witness6 (enc := enc) (C := Try.checked) false ⟨#[], #[.slice none 0 0, .string ⟨#[]⟩], []⟩ 8 (by kernel_rfl) (by kernel_rfl) (by kernel_rfl) (by kernel_rfl)) ?_
  intro W base args ds gs before hval0 hW hcnd hsz0 _
  have hval : ∀ (j : Nat) t v, Try.f4.params[j]? = some t → args[j]? = some v → Value.okWide Try.prog W .any base t v := hval0
  have hW' := hW
  obtain ⟨p, q, hA0, hV, rfl, hfz, hnd⟩ := hW
  have hA : DataW.TrodAll enc Try.prog W 0 (fun _ => true) true Try.f4.params.toList args.toList ds p := hA0
  have hsz : (DataW.weightsEach Try.prog (Try.f4.params.toList ++ Rows.huffReadsSpec.plain.varTypes Try.prog) (ds ++ gs)).all (· ≤ reachBytes) = true := hsz0
  rw [Try.params4] at hA hval hsz
  obtain ⟨v0, vs0, d0, ds0, p0, q0, hargs, rfl, rfl, h0, r0⟩ := trodAll_cons hA
  obtain ⟨v1, vs1, d1, ds1, p1, q1, rfl, rfl, rfl, h1, r1⟩ := trodAll_cons r0
  obtain ⟨rfl, rfl, rfl⟩ := trodAll_nil r1
  obtain rfl : args = #[v0, v1] := by cases args; simp_all
  obtain ⟨rfl, rfl⟩ := trodVars_none hV
  have k0 := h0
  have lt0 : ∀ x ∈ p0, x.block < W.heap.size := by obtain ⟨m, hm⟩ := k0; exact DataW.trod_lt m _ _ _ hm
  obtain ⟨oa0, ol0, oc0, rfl⟩ := okWide_slice Try.underlying22 (hval 0 22 v0 rfl rfl)
  obtain ⟨m0, t0⟩ := h0
  obtain ⟨A0, len0, cap0, l0, he0, hl0, hll0, hN0, hst0⟩ := open_zs t0
  obtain ⟨a1, rfl, rfl, rfl, w1⟩ := open_string Try.underlying9 (hval 1 9 v1 rfl rfl) h1
  have z1 := sized_string hsz (j := 1) (t := 9) (bytes := a1.data.toList) rfl rfl
  rw [he0] at hW' k0 t0 ⊢
  clear hA0 hval0
  try simp only [List.append_nil] at hW'
  refine (walk A0 len0 cap0 hN0 (zs_len hsz (j := 0) rfl rfl t0) l0 (hid hll0) a1 (by have := str_le z1; omega) W hst0).mono fun e W' ⟨he, bel⟩ => ?_
  subst he
  exact ⟨_, rfl, _, _, _, [], _, [], hW', trodAll_mk1 (shut_bool Try.underlying4 _), (trodAll_cons_mk (Below.trod laidOut (by kernel_rfl) (of_decide_eq_true (by kernel_rfl)) k0 bel lt0) (trodAll_cons_mk (shut_string Try.underlying9 w1) trodAll_mk0)), rfl, Below.frame bel _, fun h => by cases h⟩

theorem proved : Rows.HuffReadsSaid :=
  OpenClaim.holds_of_wide 4 Try.f4 rfl rfl rfl rfl rfl rfl rfl ⟨rfl, rfl, rfl, rfl, rfl⟩ rfl rfl rfl rfl rfl (by kernel_rfl) Try.func4 (by kernel_rfl)
    (of_decide_eq_true (by kernel_rfl)) (by unfold Func.isWrapper; first | (rw [if_pos (by decide +kernel)]; kernel_rfl) | (rw [if_neg (by decide +kernel)]; exact ⟨rfl, rfl⟩))
    (fun os started H enc _ => lifted os started H enc)
end Go.Proofs.Ytlgobejphdnobaa.huffReads

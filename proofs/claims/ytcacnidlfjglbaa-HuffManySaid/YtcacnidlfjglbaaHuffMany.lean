/- HuffMany returns true for every list of ints and every int, and changes nothing that was there; no condition. -/
import Derived.Test.YtcacnidlfjglbaaLenN
import Derived.Test.YtcacnidlfjglbaaHufL0
import Derived.Test.YtcacnidlfjglbaaZsKit
import Derived.SizedLaws
import Derived.ProofKit
import Derived.OpenShut
import Derived.ShutString
import Derived.ChangeOld
namespace Go.Proofs.Ytcacnidlfjglbaa.huffMany
open Go.RowKit Go.ChangeShapes Go.WideShapes Go.ChangeAt
set_option linter.unusedVariables false
set_option maxRecDepth 100000 in
set_option maxHeartbeats 8000000 in
theorem walk (a : Option Addr) (len cap : Nat) (hA : a = none → cap = 0) (hb8 : len * 8 ≤ 140737488355328) (l : List Int) (hll : Hid (l.length = len)) (x : Int) (hx : (Lit.int .i64 x).wf = true) (w : World) (hst : ZsAt w a l) :
    Calls Try.prog 4 #[.slice a len cap, .int .i64 x] w fun e w' => e = .returned (.bool true) ∧ Bw w w' := by
  have HL := hid live_any
  have HST := hid hst
  have hls : len < 4611686018427387904 := by omega
  cases hO : oftenB l x with
  | false =>
    have HB := hid (lengths_bad a len cap x l hll hls hO w hst)
    have HOF := hid (fun w2 h => often_any a len cap x l hll hls w2 h)
    rw [hO] at HOF
    clear hst hO
    go_enter Try.func4, Try.ntmps4
    go_wp2_with fail
    refine HB.out.mono ?_
    rintro e w1 ⟨rfl, hb⟩
    have HB1 := hid hb
    clear hb
    go_wp2_with fail
    refine (HOF.out _ (HST.out.bw HB1.out)).mono ?_
    rintro e w2 ⟨rfl, hb⟩
    have HB2 := hid (HB1.out.trans hb)
    clear hb
    go_wp2_with fail
    refine (HL.out _).mono ?_
    rintro e w8 ⟨rfl, hb8'⟩
    have HB8 := hid (HB2.out.trans hb8')
    clear hb8'
    go_wp2
    go_returns
    exact ⟨rfl, HB8.out⟩
  | true =>
    have hq := hO
    unfold oftenB at hq
    rw [Bool.and_eq_true, Bool.and_eq_true] at hq
    obtain ⟨q1, q2, q3⟩ := hq
    obtain ⟨m1, m2, h320⟩ := of_decide_eq_true q1
    have hp := of_decide_eq_true q3
    rw [hll.out] at h320 hp
    obtain ⟨most, rfl⟩ := Int.eq_ofNat_of_zero_le (show 0 ≤ x by omega)
    rw [Int.toNat_natCast] at hp
    have hm1 : 1 ≤ most := by omega
    have hm15 : most ≤ 15 := by omega
    have HB := hid (lengths_any a len cap most l hll h320 (List.all_eq_true.1 q2) hm1 hm15 hp w hst)
    have HOF := hid (fun w2 h => often_any a len cap (most : Nat) l hll hls w2 h)
    rw [hO] at HOF
    have HOK := hid (many_ok hm1 hm15 hp)
    have HCK := hid (many_check h320 hm1 hm15 hp)
    have HALL := hid (List.all_eq_true.1 q2)
    clear hst hO q1 q2 q3 hp hx
    go_enter Try.func4, Try.ntmps4
    go_wp2_with fail
    refine HB.out.mono ?_
    rintro e w1 ⟨rb, rfl, hrb, hc, hb⟩
    have HB1 := hid hb
    have HC1 := hid hc
    clear hb hc HB
    go_wp2_with fail
    refine (HOF.out _ (HST.out.bw HB1.out)).mono ?_
    rintro e w2 ⟨rfl, hb⟩
    have HB2 := hid (HB1.out.trans hb)
    have HC2 := hid (hb.has HC1.out)
    clear hb
    go_wp2_with fail
    refine (check_any (some ⟨rb, 0, none⟩) len len ((List.range len).map fun s => ((manyF l len most s : Nat) : Int)) (hid (by simp)) _ (fun i hi => ?_)).mono ?_
    · have hi2 : i < len := by simpa using hi
      refine ⟨rb, 0, rfl, HC2.out.lt, ?_⟩
      rw [Nat.zero_add, HC2.out.cell i]
      simp [hi2]
    rintro e w3 ⟨rfl, hb⟩
    have HB3 := hid (HB2.out.trans hb)
    have HC3 := hid (hb.has HC2.out)
    clear hb
    rw [HCK.out]
    go_wp2_with fail
    go_loopw [7] (fun i wr => ∃ j : Nat, j ≤ len ∧ i = .int .i64 j ∧ Bw w3 wr) (fun i _ => len - (intOf i).toNat)
    case atStart => exact ⟨0, Nat.zero_le _, rfl, Bw.refl _⟩
    case round =>
      obtain ⟨i, hi, rfl, hbw⟩ := hrel
      rename World => wr
      have HBW := hid hbw
      by_cases hlt : i < len
      · have hlti : (i : Int) < len := by omega
        have hil : i < l.length := by rw [hll.out]; exact hlt
        obtain ⟨b, off, rfl, hbl, q0⟩ := HST.out i hil
        have hgi : l.getD i 0 = l[i] := by simp [List.getD, hil]
        have HGI := hid hgi
        have x0 : wr.cell? ⟨b, off + i, none⟩ = some (.int .i64 l[i]) := (World.cell?_of_block ((HB3.out.trans hbw).block b hbl)).trans q0
        have y0 : wr.cell? ⟨rb, i, none⟩ = some (.int .i64 (manyF l len most i : Nat)) := by
          have h1 := (hbw.has HC3.out).cell i
          simpa [hlt] using h1
        have hoi := of_decide_eq_true (HALL.out l[i] (List.getElem_mem hil))
        have ho1 := hoi.1
        have ho2 := hoi.2
        have hle : manyF l len most i ≤ most := by
          by_cases h : 0 < l.getD i 0
          · exact (HOK.out.1 i hlt h).2
          · rw [HOK.out.2.1 i (fun hh => h hh.2)]; omega
        have hz : ((manyF l len most i : Nat) : Int) = 0 ↔ l[i] = 0 := by
          by_cases h : 0 < l.getD i 0
          · have := (HOK.out.1 i hlt h).1
            rw [hgi] at h
            constructor <;> intro <;> omega
          · have h0 := HOK.out.2.1 i (fun hh => h hh.2)
            rw [hgi] at h
            rw [h0]
            constructor <;> intro <;> omega
        have HQ := hid (fun k (hk : k < len) (h1 : 0 < l[i]) (h2 : l[i] < l.getD k 0) => HOK.out.2.2.1 i k hlt hk (by rw [hgi]; exact h1) (by rw [hgi]; exact h2))
        have HX0 := hid (fun (wq : World) (h : Bw w3 wq) => (World.cell?_of_block ((HB3.out.trans h).block b hbl)).trans q0)
        have HY0 := hid (fun (wq : World) (h : Bw w3 wq) => show wq.cell? ⟨rb, i, none⟩ = some (.int .i64 (manyF l len most i : Nat)) from by
          have h1 := (h.has HC3.out).cell i
          simpa [hlt] using h1)
        have hzb : ((((manyF l len most i : Nat) : Int) == 0) != (l[i] == 0)) = false := by
          by_cases h : l[i] = 0
          · rw [hz.2 h, h]; rfl
          · have h' : ¬ ((manyF l len most i : Nat) : Int) = 0 := fun e => h (hz.1 e)
            rw [beq_eq_false_iff_ne.2 h, beq_eq_false_iff_ne.2 h']; rfl
        clear hz hoi hgi hbw q0
        generalize manyF l len most i = fi at *
        generalize l[i] = oi at *
        have hlei : ((fi : Nat) : Int) ≤ most := by omega
        go_wp2_with fail
        go_quiet (fail)
        go_wp2_with fail
        · exfalso
          have hz2 : (!(((fi : Nat) : Int) == 0) == (oi == 0)) = false := hzb
          rcases (by assumption : most < fi ∨ (!(((fi : Nat) : Int) == 0) == (oi == 0)) = true) with h | h
          · omega
          · rw [hz2] at h; cases h
        go_loopw [8] (fun k wq => ∃ j : Nat, j ≤ len ∧ k = .int .i64 j ∧ Bw w3 wq) (fun k _ => len - (intOf k).toNat)
        case atStart => exact ⟨0, Nat.zero_le _, rfl, HBW.out.drewN _⟩
        case round =>
          clear x0 y0
          obtain ⟨k, hk, rfl, hbq⟩ := hrel
          rename World => wq
          have HBQ := hid hbq
          by_cases hkl : k < len
          · have hkli : (k : Int) < len := by omega
            have hkll : k < l.length := by rw [hll.out]; exact hkl
            obtain ⟨b2, off2, hab, hbl2, q1⟩ := HST.out k hkll
            obtain ⟨rfl, rfl⟩ : b = b2 ∧ off = off2 := by simpa using hab
            have x0 := HX0.out wq hbq
            have y0 := HY0.out wq hbq
            have x1 : wq.cell? ⟨b, off + k, none⟩ = some (.int .i64 l[k]) := (World.cell?_of_block ((HB3.out.trans hbq).block b hbl2)).trans q1
            have y1 : wq.cell? ⟨rb, k, none⟩ = some (.int .i64 (manyF l len most k : Nat)) := by
              have h1 := (hbq.has HC3.out).cell k
              simpa [hkl] using h1
            have hgk : l.getD k 0 = l[k] := by simp [List.getD, hkll]
            have hq3 := HQ.out k hkl
            rw [hgk] at hq3
            have HQ3 := hid hq3
            clear hq3 hgk hab q1 hbq
            generalize manyF l len most k = fk at *
            generalize l[k] = ok at *
            clear hkll
            by_cases c1 : oi < ok
            · by_cases c2 : 0 < oi
              · have c3 := HQ3.out c2 c1
                have c4 : ((fk : Nat) : Int) ≤ fi := by omega
                go_wp2_with fail
                go_quiet (fail)
                go_wp2
                go_roundw
                case rel => exact ⟨k + 1, by omega, by go_num, HBQ.out.drewN _⟩
                case measure => simp [intOf]; omega
              · have g1 : decide (oi < ok) = true := decide_eq_true c1
                have g2 : decide (0 < oi) = false := decide_eq_false c2
                have ho3 : oi ≤ 0 := by omega
                clear c1 c2
                go_wp2_with fail
                go_quiet (fail)
                go_wp2
                go_roundw
                case rel => exact ⟨k + 1, by omega, by go_num, HBQ.out.drewN _⟩
                case measure => simp [intOf]; omega
            · have g1 : decide (oi < ok) = false := decide_eq_false c1
              clear c1
              go_wp2_with fail
              go_quiet (fail)
              go_wp2
              go_roundw
              case rel => exact ⟨k + 1, by omega, by go_num, HBQ.out.drewN _⟩
              case measure => simp [intOf]; omega
          · obtain rfl : k = len := by omega
            clear hbq
            go_wp2
            go_roundw
            case rel => exact ⟨i + 1, by omega, by go_num, HBQ.out⟩
            case measure => simp [intOf]; omega
      · have hni : ¬ (i : Int) < len := by omega
        clear hbw
        go_wp2_with fail
        refine (HL.out _).mono ?_
        rintro e w8 ⟨rfl, hb8'⟩
        have HB8 := hid (HB3.out.trans (HBW.out.trans hb8'))
        clear hb8'
        go_wp2
        go_returns
        exact ⟨rfl, HB8.out⟩

/-! The frame: from the walk to the statement. -/
theorem own : ownKnob Try.prog.godebug = none := by kernel_rfl
theorem laidOut : laidOutB Try.prog = true := by kernel_rfl
set_option maxRecDepth 100000 in
theorem lifted (os : Os) (started : os.Started) (H : Type) (enc : TypeId × Value → H) :
    ReturnsInHanded {} Try.checked os 4 .any (Rows.huffManySpec.pre6 enc Try.prog Try.f4 Rows.huffManyRow.domain false) (Rows.huffManySpec.post enc Try.prog Try.f4 false true false false) := by
  refine returnsInHanded_of_change_sized (C := Try.checked) own started (by kernel_rfl) Try.func4
    (ChangeSpec.witness6 (enc := enc) (C := Try.checked) false ⟨#[], #[.slice none 0 0, .int .i64 0], []⟩ 8 (by kernel_rfl) (by kernel_rfl) (by kernel_rfl) (by kernel_rfl)) ?_
  intro W base args ds gs before hval0 hW hcnd hsz0 _
  have hval : ∀ (j : Nat) t v, Try.f4.params[j]? = some t → args[j]? = some v → Value.okWide Try.prog W .any base t v := hval0
  have hW' := hW
  obtain ⟨p, q, hA0, hV, rfl, hfz, hnd⟩ := hW
  have hA : DataW.TrodAll enc Try.prog W 0 (fun _ => true) true Try.f4.params.toList args.toList ds p := hA0
  have hsz : (DataW.weightsEach Try.prog (Try.f4.params.toList ++ Rows.huffManySpec.plain.varTypes Try.prog) (ds ++ gs)).all (· ≤ reachBytes) = true := hsz0
  rw [Try.params4] at hA hval hsz
  obtain ⟨v0, vs0, d0, ds0, p0, q0, hargs, rfl, rfl, h0, r0⟩ := trodAll_cons hA
  obtain ⟨v1, vs1, d1, ds1, p1, q1, rfl, rfl, rfl, h1, r1⟩ := trodAll_cons r0
  obtain ⟨rfl, rfl, rfl⟩ := trodAll_nil r1
  obtain rfl : args = #[v0, v1] := by cases args; simp_all
  obtain ⟨rfl, rfl⟩ := trodVars_none hV
  have k0 := h0
  have lt0 : ∀ x ∈ p0, x.block < W.heap.size := by obtain ⟨m, hm⟩ := k0; exact DataW.trod_lt m _ _ _ hm
  obtain ⟨oa0, ol0, oc0, rfl⟩ := okWide_slice Try.underlying22 (hval 0 22 v0 rfl rfl)
  obtain ⟨m0, t0⟩ := h0
  obtain ⟨A0, len0, cap0, l0, he0, hl0, hll0, hN0, hst0⟩ := open_zs t0
  obtain ⟨a1, rfl, rfl, rfl, w1⟩ := open_int Try.underlying3 (hval 1 3 v1 rfl rfl) h1
  rw [he0] at hW' k0 t0 ⊢
  clear hA0 hval0
  try simp only [List.append_nil] at hW'
  refine (walk A0 len0 cap0 hN0 (zs_len hsz (j := 0) rfl rfl t0) l0 (hid hll0) a1 w1 W hst0).mono fun e W' ⟨he, bel⟩ => ?_
  subst he
  exact ⟨_, rfl, _, _, _, [], _, [], hW', trodAll_mk1 (shut_bool Try.underlying4 _), (trodAll_cons_mk (Below.trod laidOut (by kernel_rfl) (of_decide_eq_true (by kernel_rfl)) k0 bel lt0) (trodAll_cons_mk (shut_int Try.underlying3 w1) trodAll_mk0)), rfl, Below.frame bel _, fun h => by cases h⟩

theorem proved : Rows.HuffManySaid :=
  OpenClaim.holds_of_wide 4 Try.f4 rfl rfl rfl rfl rfl rfl rfl ⟨rfl, rfl, rfl, rfl, rfl⟩ rfl rfl rfl rfl rfl (by kernel_rfl) Try.func4 (by kernel_rfl)
    (of_decide_eq_true (by kernel_rfl)) (by unfold Func.isWrapper; first | (rw [if_pos (by decide +kernel)]; kernel_rfl) | (rw [if_neg (by decide +kernel)]; exact ⟨rfl, rfl⟩))
    (fun os started H enc _ => lifted os started H enc)
end Go.Proofs.Ytcacnidlfjglbaa.huffMany

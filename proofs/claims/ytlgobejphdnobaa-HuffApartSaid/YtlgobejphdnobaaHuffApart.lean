/- HuffApart returns true for every list of ints, and changes nothing that was there; no condition. -/
import Derived.Test.YtlgobejphdnobaaHufL0
import Derived.Test.YtlgobejphdnobaaHufK
import Derived.Test.YtlgobejphdnobaaZsKit
import Derived.SizedLaws
import Derived.Laws.ShiftsVarLaws
import Derived.IntWalk
import Derived.ProofKit
import Derived.OpenShut
import Derived.ShutString
import Derived.ChangeOld
namespace Go.Proofs.Ytlgobejphdnobaa.huffApart
open Go.RowKit Go.ChangeShapes Go.WideShapes Go.ChangeAt
set_option linter.unusedVariables false

set_option maxRecDepth 100000 in
set_option maxHeartbeats 8000000 in
theorem walk (a : Option Addr) (len cap : Nat) (hA : a = none → cap = 0) (hb8 : len * 8 ≤ 140737488355328) (l : List Int) (hll : Hid (l.length = len)) (w : World) (hst : ZsAt w a l) :
    Calls Try.prog 8 #[.slice a len cap] w fun e w' => e = .returned (.bool true) ∧ Bw w w' := by
  have HL := hid live_any
  have HST := hid hst
  by_cases hE : checkE l = 0
  · have hco := IsCode.of_check hE
    have h320 : len ≤ 320 := by rw [← hll.out]; exact hco.few
    have HC := hid (codes_ok a len cap l hll hE w hst)
    have HCO := hid hco
    clear hst hE hco
    go_enter Try.func8, Try.ntmps8
    go_wp2_with fail
    refine HC.out.mono ?_
    rintro e w1 ⟨rb, rfl, hrb, hc, hb⟩
    have HCD := hid hc
    have HB1 := hid hb
    clear hc hb HC
    go_wp2_with fail
    go_loopw [5] (fun i wr => ∃ j : Nat, j ≤ len ∧ i = .int .i64 j ∧ Bw w1 wr) (fun i _ => len - (intOf i).toNat)
    case atStart => exact ⟨0, Nat.zero_le _, rfl, Bw.refl _⟩
    case round =>
      obtain ⟨i, hi, rfl, hbw⟩ := hrel
      have HBW := hid hbw
      clear hbw
      by_cases hlt : i < len
      · have hlti : (i : Int) < len := by omega
        go_wp2_with fail
        go_loopw [6] (fun k wq => ∃ j : Nat, j ≤ len ∧ k = .int .i64 j ∧ Bw w1 wq) (fun k _ => len - (intOf k).toNat)
        case atStart => exact ⟨0, Nat.zero_le _, rfl, HBW.out⟩
        case round =>
          obtain ⟨k, hk, rfl, hbq⟩ := hrel
          rename World => wq
          have HBQ := hid hbq
          by_cases hkl : k < len
          · have hkli : (k : Int) < len := by omega
            have hil : i < l.length := by rw [hll.out]; exact hlt
            have hkll : k < l.length := by rw [hll.out]; exact hkl
            obtain ⟨b, off, rfl, hbl, q0⟩ := HST.out i hil
            obtain ⟨b2, off2, hab, hbl2, q1⟩ := HST.out k hkll
            obtain ⟨rfl, rfl⟩ : b = b2 ∧ off = off2 := by simpa using hab
            have e0 : l[i] = ((lenF l i : Nat) : Int) := by rw [← (HCO.out.len i).2]; simp [List.getD, hil]
            have e1 : l[k] = ((lenF l k : Nat) : Int) := by rw [← (HCO.out.len k).2]; simp [List.getD, hkll]
            have x0 : wq.cell? ⟨b, off + i, none⟩ = some (.int .i64 (lenF l i : Nat)) := by rw [← e0]; exact (World.cell?_of_block ((HB1.out.trans hbq).block b hbl)).trans q0
            have x1 : wq.cell? ⟨b, off + k, none⟩ = some (.int .i64 (lenF l k : Nat)) := by rw [← e1]; exact (World.cell?_of_block ((HB1.out.trans hbq).block b hbl)).trans q1
            have y0 : wq.cell? ⟨rb, i, none⟩ = some (.int .i64 (codeF l i : Nat)) := by
              have h1 := (hbq.has HCD.out).cell i
              rw [cArr_get l len len i hlt, if_pos hlt] at h1
              exact h1
            have y1 : wq.cell? ⟨rb, k, none⟩ = some (.int .i64 (codeF l k : Nat)) := by
              have h1 := (hbq.has HCD.out).cell k
              rw [cArr_get l len len k hkl, if_pos hkl] at h1
              exact h1
            have hli := (HCO.out.len i).1
            have hlk := (HCO.out.len k).1
            have HAP := hid (fun (h0 : 0 < lenF l i) (h1 : lenF l i ≤ lenF l k) (h2 : codeF l k / 2 ^ (lenF l k - lenF l i) = codeF l i) => code_apart HCO.out h0 h1 h2)
            have hck : codeF l k < 32768 := by
              by_cases h0 : lenF l k = 0
              · rw [code_zero HCO.out h0]; decide
              · exact Nat.lt_of_lt_of_le (code_lt HCO.out (by omega)) (Nat.le_trans (Nat.pow_le_pow_right (by decide) hlk) (by decide))
            clear hbq q0 q1 hab e0 e1 hil hkll
            generalize lenF l i = m at *
            generalize lenF l k = n at *
            generalize codeF l i = c at *
            generalize codeF l k = d at *
            by_cases hik : i = k
            · have hn : ((i : Int) != (k : Int)) = false := by simp [hik]
              clear HAP
              go_wp2_with fail
              go_quiet (fail)
              go_wp2
              go_roundw
              case rel => exact ⟨k + 1, by omega, by go_num, HBQ.out.drewN _⟩
              case measure => simp [intOf]; omega
            · have hn : ((i : Int) != (k : Int)) = true := by simp; omega
              by_cases h0 : 0 < m
              · have g0 : decide (0 < m) = true := decide_eq_true h0
                by_cases h1 : m ≤ n
                · have g1 : decide (m ≤ n) = true := decide_eq_true h1
                  obtain ⟨f, hf⟩ : ∃ f, n - m = f := ⟨_, rfl⟩
                  have hw1 : IntKind.i64.wrap ((n : Int) - (m : Int)) = (f : Int) := by rw [IntWalk.i64_in _ (by omega)]; omega
                  have hd15 : f ≤ 15 := by omega
                  have hne : ¬ d / 2 ^ f = c := fun h => hik (HAP.out h0 h1 (by rw [hf]; exact h))
                  have hb3 : ((d : Int) / 2 ^ f == (c : Int)) = false := by rw [show (d : Int) / 2 ^ f = ((d / 2 ^ f : Nat) : Int) by simp]; exact beq_eq_false_iff_ne.2 (by omega)
                  clear HAP hf hne
                  go_wp2_with fail
                  go_quiet (fail)
                  go_wp2
                  go_roundw
                  case rel => exact ⟨k + 1, by omega, by go_num, HBQ.out.drewN _⟩
                  case measure => simp [intOf]; omega
                · have g1 : decide (m ≤ n) = false := decide_eq_false h1
                  clear HAP
                  go_wp2_with fail
                  go_quiet (fail)
                  go_wp2
                  go_roundw
                  case rel => exact ⟨k + 1, by omega, by go_num, HBQ.out.drewN _⟩
                  case measure => simp [intOf]; omega
              · have g0 : decide (0 < m) = false := decide_eq_false h0
                clear HAP
                go_wp2_with fail
                go_quiet (fail)
                go_wp2
                go_roundw
                case rel => exact ⟨k + 1, by omega, by go_num, HBQ.out.drewN _⟩
                case measure => simp [intOf]; omega
          · obtain rfl : k = len := by omega
            clear hbq
            go_wp2
            go_roundw
            case rel => exact ⟨i + 1, by omega, by go_num, HBQ.out⟩
            case measure => simp [intOf]; omega
      · have hni : ¬ (i : Int) < len := by omega
        go_wp2_with fail
        refine (HL.out _).mono ?_
        rintro e w8 ⟨rfl, hb8'⟩
        have HB8 := hid (HB1.out.trans (HBW.out.trans hb8'))
        clear hb8'
        go_wp2
        go_returns
        exact ⟨rfl, HB8.out⟩
  · have HC := hid (codes_bad a len cap l hll hE w hst)
    generalize checkE l = ce at *
    have hne : (ce != 0) = true := by simpa using hE
    clear hst hE
    go_enter Try.func8, Try.ntmps8
    go_wp2_with fail
    refine HC.out.mono ?_
    rintro e w1 ⟨rfl, hb⟩
    have HB1 := hid hb
    clear hb
    go_wp2_with fail
    refine (HL.out _).mono ?_
    rintro e w8 ⟨rfl, hb8'⟩
    have HB8 := hid (HB1.out.trans hb8')
    clear hb8'
    go_wp2
    go_returns
    exact ⟨rfl, HB8.out⟩

/-! The frame: from the walk to the statement. -/
theorem own : ownKnob Try.prog.godebug = none := by kernel_rfl
theorem laidOut : laidOutB Try.prog = true := by kernel_rfl
set_option maxRecDepth 100000 in
theorem lifted (os : Os) (started : os.Started) (H : Type) (enc : TypeId × Value → H) :
    ReturnsInHanded {} Try.checked os 8 .any (Rows.huffApartSpec.pre6 enc Try.prog Try.f8 Rows.huffApartRow.domain false) (Rows.huffApartSpec.post enc Try.prog Try.f8 false true false false) := by
  refine returnsInHanded_of_change_sized (C := Try.checked) own started (by kernel_rfl) Try.func8
    (ChangeSpec.witness6 (enc := enc) (C := Try.checked) false ⟨#[], #[.slice none 0 0], []⟩ 8 (by kernel_rfl) (by kernel_rfl) (by kernel_rfl) (by kernel_rfl)) ?_
  intro W base args ds gs before hval0 hW hcnd hsz0 _
  have hval : ∀ (j : Nat) t v, Try.f8.params[j]? = some t → args[j]? = some v → Value.okWide Try.prog W .any base t v := hval0
  have hW' := hW
  obtain ⟨p, q, hA0, hV, rfl, hfz, hnd⟩ := hW
  have hA : DataW.TrodAll enc Try.prog W 0 (fun _ => true) true Try.f8.params.toList args.toList ds p := hA0
  have hsz : (DataW.weightsEach Try.prog (Try.f8.params.toList ++ Rows.huffApartSpec.plain.varTypes Try.prog) (ds ++ gs)).all (· ≤ reachBytes) = true := hsz0
  rw [Try.params8] at hA hval hsz
  obtain ⟨v0, vs0, d0, ds0, p0, q0, hargs, rfl, rfl, h0, r0⟩ := trodAll_cons hA
  obtain ⟨rfl, rfl, rfl⟩ := trodAll_nil r0
  obtain rfl : args = #[v0] := by cases args; simp_all
  obtain ⟨rfl, rfl⟩ := trodVars_none hV
  have k0 := h0
  have lt0 : ∀ x ∈ p0, x.block < W.heap.size := by obtain ⟨m, hm⟩ := k0; exact DataW.trod_lt m _ _ _ hm
  obtain ⟨oa0, ol0, oc0, rfl⟩ := okWide_slice Try.underlying22 (hval 0 22 v0 rfl rfl)
  obtain ⟨m0, t0⟩ := h0
  obtain ⟨A0, len0, cap0, l0, he0, hl0, hll0, hN0, hst0⟩ := open_zs t0
  rw [he0] at hW' k0 t0 ⊢
  clear hA0 hval0
  try simp only [List.append_nil] at hW'
  refine (walk A0 len0 cap0 hN0 (zs_len hsz (j := 0) rfl rfl t0) l0 (hid hll0) W hst0).mono fun e W' ⟨he, bel⟩ => ?_
  subst he
  exact ⟨_, rfl, _, _, _, [], _, [], hW', trodAll_mk1 (shut_bool Try.underlying4 _), (trodAll_cons_mk (Below.trod laidOut (by kernel_rfl) (of_decide_eq_true (by kernel_rfl)) k0 bel lt0) trodAll_mk0), rfl, Below.frame bel _, fun h => by cases h⟩

theorem proved : Rows.HuffApartSaid :=
  OpenClaim.holds_of_wide 8 Try.f8 rfl rfl rfl rfl rfl rfl rfl ⟨rfl, rfl, rfl, rfl, rfl⟩ rfl rfl rfl rfl rfl (by kernel_rfl) Try.func8 (by kernel_rfl)
    (of_decide_eq_true (by kernel_rfl)) (by unfold Func.isWrapper; first | (rw [if_pos (by decide +kernel)]; kernel_rfl) | (rw [if_neg (by decide +kernel)]; exact ⟨rfl, rfl⟩))
    (fun os started H enc _ => lifted os started H enc)
end Go.Proofs.Ytlgobejphdnobaa.huffApart

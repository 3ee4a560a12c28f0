/- The document's Next (contract of the function). -/
import Derived.Test.YtlgobejphdnobaaHufS
import Derived.Test.YtlgobejphdnobaaHufK
import Derived.Test.YtlgobejphdnobaaBitX0
import Derived.Laws.ShiftsVarLaws
import Derived.IntWalk
namespace Go.Proofs.Ytlgobejphdnobaa
open Go.RowKit Go.Conc
set_option linter.unusedVariables false
def RNextPost (g : Nat) (l : List Int) (s : ByteArray) (k : Nat) (w : World) (e : Ending) (w' : World) : Prop :=
  e = .returned (.tuple #[.int .i64 (nextV l s k : Nat), .int .i64 (nextE l s k)]) ∧ Rx w' g s (nextK l s k) ∧ Keeps (· = g) w w'
theorem rnext_of {l : List Int} {s : ByteArray} {k v k2 : Nat} {e : Int} (h : nextR l s k = (v, e, k2)) : nextV l s k = v ∧ nextE l s k = e ∧ nextK l s k = if e = 0 then k2 else k := by
  unfold nextK nextV nextE
  rw [h]
  exact ⟨rfl, rfl, rfl⟩
/-- Whether a path leads on to one of the first j. -/
def ndK (l : List Int) (j : Nat) (p : Path) : Bool := (List.range j).any fun i => decide (p.1 < lenF l i ∧ codeF l i / 2 ^ (lenF l i - p.1) = p.2)
theorem ndK_all (l : List Int) (p : Path) : ndK l l.length p = ndB l p := rfl
theorem ndK_snoc (l : List Int) (j : Nat) (p : Path) : ndK l (j + 1) p = (ndK l j p || decide (p.1 < lenF l j ∧ codeF l j / 2 ^ (lenF l j - p.1) = p.2)) := by
  unfold ndK
  rw [List.range_succ, List.any_append]
  simp
theorem lfK_next {l : List Int} {j : Nat} {p : Path} (h : lfK l j p = none) (hn : ¬ (0 < p.1 ∧ lenF l j = p.1 ∧ codeF l j = p.2)) : lfK l (j + 1) p = none := lfK_isnone fun i hi hx => by
  by_cases e : i = j
  · subst e; exact hn hx
  · exact lfK_none h (by omega) hx
theorem find_range_first (P : Nat → Bool) (j : Nat) (h : (List.range j).find? P = none) (hj : P j = true) : ∀ m, j < m → (List.range m).find? P = some j := by
  intro m hm
  induction m with
  | zero => omega
  | succ m ih =>
    rw [List.range_succ, List.find?_append]
    by_cases e : j = m
    · subst e
      rw [h]
      simp [hj]
    · rw [ih (by omega)]; rfl
theorem lfK_first {l : List Int} {j : Nat} {p : Path} (h : lfK l j p = none) (hn : 0 < p.1 ∧ lenF l j = p.1 ∧ codeF l j = p.2) (hj : j < l.length) : lfK l l.length p = some j :=
  find_range_first _ j h (decide_eq_true hn) _ hj
set_option maxRecDepth 100000 in
set_option maxHeartbeats 8000000 in
theorem rnext_any (a : Option Addr) (len cap rb rc g : Nat) (l : List Int) (hll : Hid (l.length = len)) (hc : IsCode l) (s : ByteArray) (hs : s.size ≤ 281474976710656) (k : Nat) (hk : k ≤ 8 * s.size) (w : World) (hst : ZsAt w a l) (hag : ∀ b off, a = some ⟨b, off, none⟩ → 0 < l.length → ¬ b = g) (hcd : Has w rb 3 (cArr l len len)) (hr : Rx w g s k) :
    Calls Try.prog 18 #[.slice a len cap, .slice (some ⟨rb, 0, none⟩) len rc, .pointer (some ⟨g, 0, none⟩)] w (RNextPost g l s k w) := by
  have hl320 : len ≤ 320 := by rw [← hll.out]; exact hc.few
  have hgr : rb ≠ g := fun e => by
    have h1 : w.heap[g]? = _ := hr
    have h2 : w.heap[rb]? = _ := hcd
    rw [← e, h2] at h1
    injection h1 with h1
    injection h1 with _ h1
    exact absurd h1 (by decide)
  have hga : ∀ i (h : i < l.length), ∃ b off, a = some ⟨b, off, none⟩ ∧ ¬ b = g ∧ b < w.heap.size ∧ w.cell? ⟨b, off + i, none⟩ = some (.int .i64 (lenF l i : Nat)) := fun i hi => by
    obtain ⟨b, off, e, h1, h2⟩ := hst i hi
    refine ⟨b, off, e, hag b off e (by omega), h1, ?_⟩
    rw [← (hc.len i).2]
    simpa [List.getD, hi] using h2
  have c1 : w.cell? ⟨g, 1, none⟩ = some (.int .i64 k) := hr.cell 1
  have HR := hid hr
  have HCD := hid hcd
  have HGA := hid hga
  have HC := hid hc
  clear hr hcd hga hc hst hag
  go_enter Try.func18, Try.ntmps18
  go_wp2_with fail
  clear c1
  go_loopw [9, 10] (fun v L wr => ∃ (n u k' : Nat), n ≤ 16 ∧ L = .int .i64 n ∧ v = .int .i64 u ∧ u < 2 ^ n ∧ dGo l s (16 - n) (n, u) k' = nextR l s k ∧ k' ≤ 8 * s.size ∧ Rx wr g s k' ∧ Keeps (· = g) w wr) (fun _ L _ => 16 - (intOf L).toNat)
  case atStart => exact ⟨0, 0, k, by omega, rfl, rfl, by decide, rfl, hk, HR.out, Keeps.refl _ _⟩
  case round =>
    obtain ⟨n, u, k', hn, rfl, rfl, hu, hR, hk', hrx, hkp⟩ := hrel
    have HRX := hid hrx
    have HKP := hid hkp
    have x1 : (∃ v, World.cell? _ ⟨g, 1, none⟩ = some v) := ⟨_, hrx.cell 1⟩
    have x2 := hrx.cell 1
    have xf := hrx.frozen 1
    clear hrx hkp x1
    by_cases hlt : n < 16
    · have hlti : (n : Int) ≤ 15 := by omega
      obtain ⟨f, hf⟩ : ∃ f, 16 - n = f + 1 := ⟨15 - n, by omega⟩
      rw [hf] at hR
      have hnf : n + f = 15 := by omega
      have HRR := hid hR
      have hu15 : u < 32768 := Nat.lt_of_lt_of_le hu (Nat.le_trans (Nat.pow_le_pow_right (by decide) (show n ≤ 15 by omega)) (by decide))
      have HU := hid hu
      clear hR hf hu hlt
      go_wp2_with fail
      go_loopw [11, 12] (fun bg i wq => ∃ (j : Nat), j ≤ len ∧ i = .int .i64 j ∧ bg = .bool (ndK l j (n, u)) ∧ lfK l j (n, u) = none ∧ Rx wq g s k' ∧ Keeps (· = g) w wq) (fun _ i _ => len - (intOf i).toNat)
      case atStart => exact ⟨0, Nat.zero_le _, rfl, rfl, rfl, HRX.out, HKP.out⟩
      case round =>
        obtain ⟨j, hj, rfl, rfl, hnl, hrx, hkp⟩ := hrel
        rename World => wq
        have HRQ := hid hrx
        have HKQ := hid hkp
        have q1 := hrx.cell 1
        have qf := hrx.frozen 1
        have HNL := hid hnl
        by_cases hjl : j < len
        · have hjli : (j : Int) < len := by omega
          have hjll : j < l.length := by rw [hll.out]; exact hjl
          obtain ⟨b, off, rfl, hbg, hbl, q0⟩ := HGA.out j hjll
          have y0 : wq.cell? ⟨b, off + j, none⟩ = some (.int .i64 (lenF l j : Nat)) := (World.cell?_of_block (hkp.block b hbl hbg)).trans q0
          have y1 : wq.cell? ⟨rb, j, none⟩ = some (.int .i64 (codeF l j : Nat)) := by
            have h1 := (hkp.has HCD.out hgr).cell j
            rw [cArr_get l len len j hjl, if_pos hjl] at h1
            exact h1
          have hl15 := (HC.out.len j).1
          have HSN := hid (ndK_snoc l j (n, u))
          have HCZ := hid (fun h => code_zero HC.out (i := j) h)
          have hcl : codeF l j < 32768 := by
            by_cases h0 : lenF l j = 0
            · rw [HCZ.out h0]; decide
            · exact Nat.lt_of_lt_of_le (code_lt HC.out (by omega)) (Nat.le_trans (Nat.pow_le_pow_right (by decide) hl15) (by decide))
          have HLX := hid (fun (h : ¬ (0 < n ∧ lenF l j = n ∧ codeF l j = u)) => lfK_next (p := (n, u)) HNL.out h)
          have HLF := hid (fun (h : 0 < n ∧ lenF l j = n ∧ codeF l j = u) => dGo_leaf (lfK_first (p := (n, u)) HNL.out h hjll) s f k')
          clear hrx hkp hnl q0 hjll
          generalize ndK l j (n, u) = bg at *
          generalize codeF l j = c at *
          generalize hx : lenF l j = x at *
          have HX := hid hx
          clear hx
          simp only at HSN
          rcases Nat.lt_trichotomy x n with hxn | hxn | hxn
          · have hb1 : ((x : Int) == (n : Int)) = false := beq_eq_false_iff_ne.2 (by omega)
            have hb2 : decide (n < x) = false := decide_eq_false (by omega)
            have HL1 := hid (HLX.out (by omega))
            have HS1 := hid (show ndK l (j + 1) (n, u) = bg by rw [HSN.out, decide_eq_false (by omega), Bool.or_false])
            clear hxn
            cases bg with
            | true =>
              go_wp2_with fail
              go_quiet (fail)
              go_wp2
              go_roundw
              case rel => exact ⟨j + 1, by omega, by go_num, by first | (rw [HS1.out]; done) | (rw [HS1.out]; rfl), HL1.out, HRQ.out.drewN _, HKQ.out.drewN _⟩
              case measure => simp [intOf]; omega
            | false =>
              go_wp2_with fail
              go_quiet (fail)
              go_wp2
              go_roundw
              case rel => exact ⟨j + 1, by omega, by go_num, by first | (rw [HS1.out]; done) | (rw [HS1.out]; rfl), HL1.out, HRQ.out.drewN _, HKQ.out.drewN _⟩
              case measure => simp [intOf]; omega
          · subst hxn
            have hb1 : ((x : Int) == (x : Int)) = true := beq_self_eq_true _
            have hb2 : decide (x < x) = false := decide_eq_false (by omega)
            have HS1 := hid (show ndK l (j + 1) (x, u) = bg by rw [HSN.out, decide_eq_false (by omega), Bool.or_false])
            by_cases h0 : 0 < x
            · have h0i : decide (0 < x) = true := decide_eq_true h0
              by_cases hcu : c = u
              · obtain ⟨n1, n2, n3⟩ := rnext_of (HRR.out.symm.trans (HLF.out ⟨h0, rfl, hcu⟩))
                have hb3 : ((c : Int) == (u : Int)) = true := beq_iff_eq.2 (by omega)
                have HN := hid (⟨n1, n2, n3.trans (if_pos rfl)⟩ : nextV l s k = j ∧ nextE l s k = 0 ∧ nextK l s k = k')
                clear n1 n2 n3 hcu
                go_wp2
                go_returns
                unfold RNextPost
                rw [HN.out.1, HN.out.2.1, HN.out.2.2]
                exact ⟨rfl, HRQ.out, HKQ.out⟩
              · have hb3 : ((c : Int) == (u : Int)) = false := beq_eq_false_iff_ne.2 (by omega)
                have HL1 := hid (HLX.out (fun h => hcu h.2.2))
                clear hcu
                cases bg with
                | true =>
                  go_wp2_with fail
                  go_quiet (fail)
                  go_wp2
                  go_roundw
                  case rel => exact ⟨j + 1, by omega, by go_num, by first | (rw [HS1.out]; done) | (rw [HS1.out]; rfl), HL1.out, HRQ.out.drewN _, HKQ.out.drewN _⟩
                  case measure => simp [intOf]; omega
                | false =>
                  go_wp2_with fail
                  go_quiet (fail)
                  go_wp2
                  go_roundw
                  case rel => exact ⟨j + 1, by omega, by go_num, by first | (rw [HS1.out]; done) | (rw [HS1.out]; rfl), HL1.out, HRQ.out.drewN _, HKQ.out.drewN _⟩
                  case measure => simp [intOf]; omega
            · have hx0 : x ≤ 0 := by omega
              have h0i : decide (0 < x) = false := decide_eq_false h0
              have HL1 := hid (HLX.out (fun h => h0 h.1))
              cases bg with
              | true =>
                go_wp2_with fail
                go_quiet (fail)
                go_wp2
                go_roundw
                case rel => exact ⟨j + 1, by omega, by go_num, by first | (rw [HS1.out]; done) | (rw [HS1.out]; rfl), HL1.out, HRQ.out.drewN _, HKQ.out.drewN _⟩
                case measure => simp [intOf]; omega
              | false =>
                go_wp2_with fail
                go_quiet (fail)
                go_wp2
                go_roundw
                case rel => exact ⟨j + 1, by omega, by go_num, by first | (rw [HS1.out]; done) | (rw [HS1.out]; rfl), HL1.out, HRQ.out.drewN _, HKQ.out.drewN _⟩
                case measure => simp [intOf]; omega
          · have hb1 : ((x : Int) == (n : Int)) = false := beq_eq_false_iff_ne.2 (by omega)
            have HL1 := hid (HLX.out (by omega))
            obtain ⟨d, hd⟩ : ∃ d, x - n = d := ⟨_, rfl⟩
            have HS1 := hid (show ndK l (j + 1) (n, u) = (bg || decide (c / 2 ^ d = u)) by rw [HSN.out, hd]; congr 1; rw [decide_eq_decide]; exact ⟨fun h => h.2, fun h => ⟨hxn, h⟩⟩)
            have hb2 : decide (n < x) = true := decide_eq_true hxn
            have hw1 : IntKind.i64.wrap ((x : Int) - (n : Int)) = (d : Int) := by rw [IntWalk.i64_in _ (by omega)]; omega
            have hd15 : d ≤ 15 := by omega
            clear hd
            clear hxn
            cases bg with
            | true =>
              go_wp2_with fail
              go_quiet (fail)
              go_wp2
              go_roundw
              case rel => exact ⟨j + 1, by omega, by go_num, by first | (rw [HS1.out]; done) | (rw [HS1.out]; rfl), HL1.out, HRQ.out.drewN _, HKQ.out.drewN _⟩
              case measure => simp [intOf]; omega
            | false =>
              by_cases hcu : c / 2 ^ d = u
              · have hb3 : ((c : Int) / 2 ^ d == (u : Int)) = true := by rw [show (c : Int) / 2 ^ d = ((c / 2 ^ d : Nat) : Int) by simp, hcu]; exact beq_self_eq_true _
                rw [decide_eq_true hcu] at HS1
                clear hcu
                go_wp2_with fail
                go_quiet (fail)
                go_wp2
                go_roundw
                case rel => exact ⟨j + 1, by omega, by go_num, by first | (rw [HS1.out]; done) | (rw [HS1.out]; rfl), HL1.out, HRQ.out.drewN _, HKQ.out.drewN _⟩
                case measure => simp [intOf]; omega
              · have hb3 : ((c : Int) / 2 ^ d == (u : Int)) = false := by rw [show (c : Int) / 2 ^ d = ((c / 2 ^ d : Nat) : Int) by simp]; exact beq_eq_false_iff_ne.2 (by omega)
                rw [decide_eq_false hcu] at HS1
                clear hcu
                go_wp2_with fail
                go_quiet (fail)
                go_wp2
                go_roundw
                case rel => exact ⟨j + 1, by omega, by go_num, by first | (rw [HS1.out]; done) | (rw [HS1.out]; rfl), HL1.out, HRQ.out.drewN _, HKQ.out.drewN _⟩
                case measure => simp [intOf]; omega
        · obtain rfl : j = len := by omega
          have hnla : lfK l l.length (n, u) = none := by rw [hll.out]; exact hnl
          have hnda : ndK l j (n, u) = ndB l (n, u) := by
            have := ndK_all l (n, u)
            rwa [hll.out] at this
          rw [hnda]
          cases hnd : ndB l (n, u) with
          | false =>
            have hRR := HRR.out
            rw [dGo_off hnla hnd] at hRR
            obtain ⟨n1, n2, n3⟩ := rnext_of hRR.symm
            have HN := hid (⟨n1, n2, n3.trans (if_neg (by decide))⟩ : nextV l s k = 0 ∧ nextE l s k = 3 ∧ nextK l s k = k)
            clear n1 n2 n3 hRR hnda hnla hnl hnd hrx hkp
            go_wp2
            go_returns
            unfold RNextPost
            rw [HN.out.1, HN.out.2.1, HN.out.2.2]
            exact ⟨rfl, HRQ.out.set k, HKQ.out.setCell (p := ⟨g, 1, none⟩) (.inl rfl) _⟩
          | true =>
            have HA := hid (refbits_any g s hs k' hk' 1 wq HRQ.out)
            unfold RefBitsPost at HA
            have hn15 := nd_short HC.out hnd
            simp only at hn15
            by_cases hcut : 8 * s.size ≤ k'
            · obtain ⟨e1, e2, e3⟩ := bits_short (n := 1) (by decide) s k' (by omega)
              rw [e1, e2, e3] at HA
              have hRR := HRR.out
              rw [dGo_cut hnla hnd s f k' hcut] at hRR
              obtain ⟨n1, n2, n3⟩ := rnext_of hRR.symm
              have HN := hid (⟨n1, n2, n3.trans (if_neg (by decide))⟩ : nextV l s k = 0 ∧ nextE l s k = 2 ∧ nextK l s k = k)
              clear n1 n2 n3 hRR hnda hnla hnl hnd hrx hkp e1 e2 e3
              go_wp2_with fail
              refine HA.out.mono ?_
              rintro e w2 ⟨rfl, hr2, hk2⟩
              have HR2 := hid hr2
              have HK2 := hid (HKQ.out.trans hk2)
              have y1 := hr2.cell 1
              have yf := hr2.frozen 1
              clear hr2 hk2
              go_wp2
              go_returns
              unfold RNextPost
              rw [HN.out.1, HN.out.2.1, HN.out.2.2]
              exact ⟨rfl, HR2.out.set k, HK2.out.setCell (p := ⟨g, 1, none⟩) (.inl rfl) _⟩
            · obtain ⟨e1, e2, e3⟩ := bits_good 1 (by omega) s k' (by omega)
              have e1' : bitsV s k' 1 = bv s k' 1 := e1
              have e2' : bitsE s k' 1 = 0 := e2
              have e3' : bitsK s k' 1 = k' + 1 := e3
              rw [e1', e2', e3'] at HA
              have hRR := HRR.out
              rw [dGo_on hnla hnd s f k' hcut] at hRR
              have hbv : bv s k' 1 < 2 := bv_lt s k' 1
              clear e1 e2 e3 e1' e2' e3' hnda hnla hnl hnd hrx hkp
              generalize bv s k' 1 = b at *
              have HR3 := hid hRR
              have hu2 : 2 * u + b < 2 ^ (n + 1) := by have := HU.out; rw [Nat.pow_succ]; omega
              have HU2 := hid hu2
              clear hRR hu2
              go_wp2_with fail
              refine HA.out.mono ?_
              rintro e w2 ⟨rfl, hr2, hk2⟩
              have HR2 := hid hr2
              have HK2 := hid (HKQ.out.trans hk2)
              clear hr2 hk2
              go_wp2
              refine ⟨⟨n + 1, 2 * u + b, k' + 1, by omega, by go_num, by go_num, HU2.out, ?_, by omega, HR2.out, HK2.out⟩, by simp [intOf]; omega⟩
              rw [show 16 - (n + 1) = f by omega]
              exact HR3.out
    · obtain rfl : n = 16 := by omega
      have hRR : ((0, 3, k') : Nat × Int × Nat) = nextR l s k := hR
      obtain ⟨n1, n2, n3⟩ := rnext_of hRR.symm
      have HN := hid (⟨n1, n2, n3.trans (if_neg (by decide))⟩ : nextV l s k = 0 ∧ nextE l s k = 3 ∧ nextK l s k = k)
      clear n1 n2 n3 hRR hR hu
      go_wp2
      go_returns
      unfold RNextPost
      rw [HN.out.1, HN.out.2.1, HN.out.2.2]
      exact ⟨rfl, HRX.out.set k, HKP.out.setCell (p := ⟨g, 1, none⟩) (.inl rfl) _⟩
end Go.Proofs.Ytlgobejphdnobaa

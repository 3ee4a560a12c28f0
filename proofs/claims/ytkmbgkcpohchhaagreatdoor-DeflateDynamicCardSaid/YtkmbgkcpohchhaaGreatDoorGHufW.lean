import Derived.Test.YtkmbgkcpohchhaaGreatDoorGHufG
import Derived.Test.YtkmbgkcpohchhaaGreatDoorGDzM
import Derived.Laws.ShiftsVarLaws
import Derived.IntWalk
import Derived.Test.YtkmbgkcpohchhaaGreatDoorGInfD
import Derived.Test.YtkmbgkcpohchhaaGreatDoorGInfI
import Derived.Test.YtkmbgkcpohchhaaGreatDoorGDefN
import Derived.Laws.MakeOwn
namespace Go.Proofs.YtkmbgkcpohchhaaGreatDoor
open Go.RowKit Go.Conc
set_option linter.unusedVariables false
def RNextPost (g : Nat) (l : List Int) (s : ByteArray) (k : Nat) (w : World) (e : Ending) (w' : World) : Prop :=
  e = .returned (.tuple #[.int .i64 (nextV l s k : Nat), .int .i64 (nextE l s k)]) ∧ Rx w' g s (nextK l s k) ∧ Keeps (· = g) w w'
theorem rnext_of {l : List Int} {s : ByteArray} {k v k2 : Nat} {e : Int} (h : nextR l s k = (v, e, k2)) : nextV l s k = v ∧ nextE l s k = e ∧ nextK l s k = if e = 0 then k2 else k := by
  unfold nextK nextV nextE
  rw [h]
  exact ⟨rfl, rfl, rfl⟩
def ndK (l : List Int) (j : Nat) (p : Path) : Bool := (List.range j).any fun i => decide (p.1 < lenF l i ∧ codeF l i / 2 ^ (lenF l i - p.1) = p.2)
theorem ndK_all (l : List Int) (p : Path) : ndK l l.length p = ndB l p := rfl
theorem ndK_snoc (l : List Int) (j : Nat) (p : Path) : ndK l (j + 1) p = (ndK l j p || decide (p.1 < lenF l j ∧ codeF l j / 2 ^ (lenF l j - p.1) = p.2)) := by
  unfold ndK
  rw [List.range_succ, List.any_append]
  simp
theorem lfK_next {l : List Int} {j : Nat} {p : Path} (h : lfK l j p = none) (hn : ¬ (0 < p.1 ∧ lenF l j = p.1 ∧ codeF l j = p.2)) : lfK l (j + 1) p = none := lfK_isnone fun i hi hx => by
  by_cases e : i = j
  · subst e; exact hn hx
  · exact lfK_none h (by omega) hx
theorem find_range_first (P : Nat → Bool) (j : Nat) (h : (List.range j).find? P = none) (hj : P j = true) : ∀ m, j < m → (List.range m).find? P = some j := by
  intro m hm
  induction m with
  | zero => omega
  | succ m ih =>
    rw [List.range_succ, List.find?_append]
    by_cases e : j = m
    · subst e
      rw [h]
      simp [hj]
    · rw [ih (by omega)]; rfl
theorem lfK_first {l : List Int} {j : Nat} {p : Path} (h : lfK l j p = none) (hn : 0 < p.1 ∧ lenF l j = p.1 ∧ codeF l j = p.2) (hj : j < l.length) : lfK l l.length p = some j :=
  find_range_first _ j h (decide_eq_true hn) _ hj
set_option maxRecDepth 100000 in
set_option maxHeartbeats 8000000 in
theorem rnext_any (a : Option Addr) (len cap rb rc g : Nat) (l : List Int) (hll : Hid (l.length = len)) (hc : IsCode l) (s : ByteArray) (hs : s.size ≤ 281474976710656) (k : Nat) (hk : k ≤ 8 * s.size) (w : World) (hst : ZsAt w a l) (hag : ∀ b off, a = some ⟨b, off, none⟩ → 0 < l.length → ¬ b = g) (hcd : Has w rb 3 (cArr l len len)) (hr : Rx w g s k) :
    Calls Tryz.prog 101 #[.slice a len cap, .slice (some ⟨rb, 0, none⟩) len rc, .pointer (some ⟨g, 0, none⟩)] w (RNextPost g l s k w) := by
  have hl320 : len ≤ 320 := by rw [← hll.out]; exact hc.few
  have hgr : rb ≠ g := fun e => by
    have h1 : w.heap[g]? = _ := hr
    have h2 : w.heap[rb]? = _ := hcd
    rw [← e, h2] at h1
    injection h1 with h1
    injection h1 with _ h1
    exact absurd h1 (by decide)
  have hga : ∀ i (h : i < l.length), ∃ b off, a = some ⟨b, off, none⟩ ∧ ¬ b = g ∧ b < w.heap.size ∧ w.cell? ⟨b, off + i, none⟩ = some (.int .i64 (lenF l i : Nat)) := fun i hi => by
    obtain ⟨b, off, e, h1, h2⟩ := hst i hi
    refine ⟨b, off, e, hag b off e (by omega), h1, ?_⟩
    rw [← (hc.len i).2]
    simpa [List.getD, hi] using h2
  have c1 : w.cell? ⟨g, 1, none⟩ = some (.int .i64 k) := hr.cell 1
  have HR := hid hr
  have HCD := hid hcd
  have HGA := hid hga
  have HC := hid hc
  clear hr hcd hga hc hst hag
  go_enter Tryz.func101, Tryz.ntmps101
  go_wp2_with fail
  clear c1
  go_loopw [9, 10] (fun v L wr => ∃ (n u k' : Nat), n ≤ 16 ∧ L = .int .i64 n ∧ v = .int .i64 u ∧ u < 2 ^ n ∧ dGo l s (16 - n) (n, u) k' = nextR l s k ∧ k' ≤ 8 * s.size ∧ Rx wr g s k' ∧ Keeps (· = g) w wr) (fun _ L _ => 16 - (intOf L).toNat)
  case atStart => exact ⟨0, 0, k, by omega, rfl, rfl, by decide, rfl, hk, HR.out, Keeps.refl _ _⟩
  case round =>
    obtain ⟨n, u, k', hn, rfl, rfl, hu, hR, hk', hrx, hkp⟩ := hrel
    have HRX := hid hrx
    have HKP := hid hkp
    have x1 : (∃ v, World.cell? _ ⟨g, 1, none⟩ = some v) := ⟨_, hrx.cell 1⟩
    have x2 := hrx.cell 1
    have xf := hrx.frozen 1
    clear hrx hkp x1
    by_cases hlt : n < 16
    · have hlti : (n : Int) ≤ 15 := by omega
      obtain ⟨f, hf⟩ : ∃ f, 16 - n = f + 1 := ⟨15 - n, by omega⟩
      rw [hf] at hR
      have hnf : n + f = 15 := by omega
      have HRR := hid hR
      have hu15 : u < 32768 := Nat.lt_of_lt_of_le hu (Nat.le_trans (Nat.pow_le_pow_right (by decide) (show n ≤ 15 by omega)) (by decide))
      have HU := hid hu
      clear hR hf hu hlt
      go_wp2_with fail
      go_loopw [11, 12] (fun bg i wq => ∃ (j : Nat), j ≤ len ∧ i = .int .i64 j ∧ bg = .bool (ndK l j (n, u)) ∧ lfK l j (n, u) = none ∧ Rx wq g s k' ∧ Keeps (· = g) w wq) (fun _ i _ => len - (intOf i).toNat)
      case atStart => exact ⟨0, Nat.zero_le _, rfl, rfl, rfl, HRX.out, HKP.out⟩
      case round =>
        obtain ⟨j, hj, rfl, rfl, hnl, hrx, hkp⟩ := hrel
        rename World => wq
        have HRQ := hid hrx
        have HKQ := hid hkp
        have q1 := hrx.cell 1
        have qf := hrx.frozen 1
        have HNL := hid hnl
        by_cases hjl : j < len
        · have hjli : (j : Int) < len := by omega
          have hjll : j < l.length := by rw [hll.out]; exact hjl
          obtain ⟨b, off, rfl, hbg, hbl, q0⟩ := HGA.out j hjll
          have y0 : wq.cell? ⟨b, off + j, none⟩ = some (.int .i64 (lenF l j : Nat)) := (World.cell?_of_block (hkp.block b hbl hbg)).trans q0
          have y1 : wq.cell? ⟨rb, j, none⟩ = some (.int .i64 (codeF l j : Nat)) := by
            have h1 := (hkp.has HCD.out hgr).cell j
            rw [cArr_get l len len j hjl, if_pos hjl] at h1
            exact h1
          have hl15 := (HC.out.len j).1
          have HSN := hid (ndK_snoc l j (n, u))
          have HCZ := hid (fun h => code_zero HC.out (i := j) h)
          have hcl : codeF l j < 32768 := by
            by_cases h0 : lenF l j = 0
            · rw [HCZ.out h0]; decide
            · exact Nat.lt_of_lt_of_le (code_lt HC.out (by omega)) (Nat.le_trans (Nat.pow_le_pow_right (by decide) hl15) (by decide))
          have HLX := hid (fun (h : ¬ (0 < n ∧ lenF l j = n ∧ codeF l j = u)) => lfK_next (p := (n, u)) HNL.out h)
          have HLF := hid (fun (h : 0 < n ∧ lenF l j = n ∧ codeF l j = u) => dGo_leaf (lfK_first (p := (n, u)) HNL.out h hjll) s f k')
          clear hrx hkp hnl q0 hjll
          generalize ndK l j (n, u) = bg at *
          generalize codeF l j = c at *
          generalize hx : lenF l j = x at *
          have HX := hid hx
          clear hx
          simp only at HSN
          rcases Nat.lt_trichotomy x n with hxn | hxn | hxn
          · have hb1 : ((x : Int) == (n : Int)) = false := beq_eq_false_iff_ne.2 (by omega)
            have hb2 : decide (n < x) = false := decide_eq_false (by omega)
            have HL1 := hid (HLX.out (by omega))
            have HS1 := hid (show ndK l (j + 1) (n, u) = bg by rw [HSN.out, decide_eq_false (by omega), Bool.or_false])
            clear hxn
            cases bg with
            | true =>
              go_wp2_with fail
              go_quiet (fail)
              go_wp2
              go_roundw
              case rel => exact ⟨j + 1, by omega, by go_num, by first | (rw [HS1.out]; done) | (rw [HS1.out]; rfl), HL1.out, HRQ.out.drewN _, HKQ.out.drewN _⟩
              case measure => simp [intOf]; omega
            | false =>
              go_wp2_with fail
              go_quiet (fail)
              go_wp2
              go_roundw
              case rel => exact ⟨j + 1, by omega, by go_num, by first | (rw [HS1.out]; done) | (rw [HS1.out]; rfl), HL1.out, HRQ.out.drewN _, HKQ.out.drewN _⟩
              case measure => simp [intOf]; omega
          · subst hxn
            have hb1 : ((x : Int) == (x : Int)) = true := beq_self_eq_true _
            have hb2 : decide (x < x) = false := decide_eq_false (by omega)
            have HS1 := hid (show ndK l (j + 1) (x, u) = bg by rw [HSN.out, decide_eq_false (by omega), Bool.or_false])
            by_cases h0 : 0 < x
            · have h0i : decide (0 < x) = true := decide_eq_true h0
              by_cases hcu : c = u
              · obtain ⟨n1, n2, n3⟩ := rnext_of (HRR.out.symm.trans (HLF.out ⟨h0, rfl, hcu⟩))
                have hb3 : ((c : Int) == (u : Int)) = true := beq_iff_eq.2 (by omega)
                have HN := hid (⟨n1, n2, n3.trans (if_pos rfl)⟩ : nextV l s k = j ∧ nextE l s k = 0 ∧ nextK l s k = k')
                clear n1 n2 n3 hcu
                go_wp2
                go_returns
                unfold RNextPost
                rw [HN.out.1, HN.out.2.1, HN.out.2.2]
                exact ⟨rfl, HRQ.out, HKQ.out⟩
              · have hb3 : ((c : Int) == (u : Int)) = false := beq_eq_false_iff_ne.2 (by omega)
                have HL1 := hid (HLX.out (fun h => hcu h.2.2))
                clear hcu
                cases bg with
                | true =>
                  go_wp2_with fail
                  go_quiet (fail)
                  go_wp2
                  go_roundw
                  case rel => exact ⟨j + 1, by omega, by go_num, by first | (rw [HS1.out]; done) | (rw [HS1.out]; rfl), HL1.out, HRQ.out.drewN _, HKQ.out.drewN _⟩
                  case measure => simp [intOf]; omega
                | false =>
                  go_wp2_with fail
                  go_quiet (fail)
                  go_wp2
                  go_roundw
                  case rel => exact ⟨j + 1, by omega, by go_num, by first | (rw [HS1.out]; done) | (rw [HS1.out]; rfl), HL1.out, HRQ.out.drewN _, HKQ.out.drewN _⟩
                  case measure => simp [intOf]; omega
            · have hx0 : x ≤ 0 := by omega
              have h0i : decide (0 < x) = false := decide_eq_false h0
              have HL1 := hid (HLX.out (fun h => h0 h.1))
              cases bg with
              | true =>
                go_wp2_with fail
                go_quiet (fail)
                go_wp2
                go_roundw
                case rel => exact ⟨j + 1, by omega, by go_num, by first | (rw [HS1.out]; done) | (rw [HS1.out]; rfl), HL1.out, HRQ.out.drewN _, HKQ.out.drewN _⟩
                case measure => simp [intOf]; omega
              | false =>
                go_wp2_with fail
                go_quiet (fail)
                go_wp2
                go_roundw
                case rel => exact ⟨j + 1, by omega, by go_num, by first | (rw [HS1.out]; done) | (rw [HS1.out]; rfl), HL1.out, HRQ.out.drewN _, HKQ.out.drewN _⟩
                case measure => simp [intOf]; omega
          · have hb1 : ((x : Int) == (n : Int)) = false := beq_eq_false_iff_ne.2 (by omega)
            have HL1 := hid (HLX.out (by omega))
            obtain ⟨d, hd⟩ : ∃ d, x - n = d := ⟨_, rfl⟩
            have HS1 := hid (show ndK l (j + 1) (n, u) = (bg || decide (c / 2 ^ d = u)) by rw [HSN.out, hd]; congr 1; rw [decide_eq_decide]; exact ⟨fun h => h.2, fun h => ⟨hxn, h⟩⟩)
            have hb2 : decide (n < x) = true := decide_eq_true hxn
            have hw1 : IntKind.i64.wrap ((x : Int) - (n : Int)) = (d : Int) := by rw [IntWalk.i64_in _ (by omega)]; omega
            have hd15 : d ≤ 15 := by omega
            clear hd
            clear hxn
            cases bg with
            | true =>
              go_wp2_with fail
              go_quiet (fail)
              go_wp2
              go_roundw
              case rel => exact ⟨j + 1, by omega, by go_num, by first | (rw [HS1.out]; done) | (rw [HS1.out]; rfl), HL1.out, HRQ.out.drewN _, HKQ.out.drewN _⟩
              case measure => simp [intOf]; omega
            | false =>
              by_cases hcu : c / 2 ^ d = u
              · have hb3 : ((c : Int) / 2 ^ d == (u : Int)) = true := by rw [show (c : Int) / 2 ^ d = ((c / 2 ^ d : Nat) : Int) by simp, hcu]; exact beq_self_eq_true _
                rw [decide_eq_true hcu] at HS1
                clear hcu
                go_wp2_with fail
                go_quiet (fail)
                go_wp2
                go_roundw
                case rel => exact ⟨j + 1, by omega, by go_num, by first | (rw [HS1.out]; done) | (rw [HS1.out]; rfl), HL1.out, HRQ.out.drewN _, HKQ.out.drewN _⟩
                case measure => simp [intOf]; omega
              · have hb3 : ((c : Int) / 2 ^ d == (u : Int)) = false := by rw [show (c : Int) / 2 ^ d = ((c / 2 ^ d : Nat) : Int) by simp]; exact beq_eq_false_iff_ne.2 (by omega)
                rw [decide_eq_false hcu] at HS1
                clear hcu
                go_wp2_with fail
                go_quiet (fail)
                go_wp2
                go_roundw
                case rel => exact ⟨j + 1, by omega, by go_num, by first | (rw [HS1.out]; done) | (rw [HS1.out]; rfl), HL1.out, HRQ.out.drewN _, HKQ.out.drewN _⟩
                case measure => simp [intOf]; omega
        · obtain rfl : j = len := by omega
          have hnla : lfK l l.length (n, u) = none := by rw [hll.out]; exact hnl
          have hnda : ndK l j (n, u) = ndB l (n, u) := by
            have := ndK_all l (n, u)
            rwa [hll.out] at this
          rw [hnda]
          cases hnd : ndB l (n, u) with
          | false =>
            have hRR := HRR.out
            rw [dGo_off hnla hnd] at hRR
            obtain ⟨n1, n2, n3⟩ := rnext_of hRR.symm
            have HN := hid (⟨n1, n2, n3.trans (if_neg (by decide))⟩ : nextV l s k = 0 ∧ nextE l s k = 3 ∧ nextK l s k = k)
            clear n1 n2 n3 hRR hnda hnla hnl hnd hrx hkp
            go_wp2
            go_returns
            unfold RNextPost
            rw [HN.out.1, HN.out.2.1, HN.out.2.2]
            exact ⟨rfl, HRQ.out.set k, HKQ.out.setCell (p := ⟨g, 1, none⟩) (.inl rfl) _⟩
          | true =>
            have HA := hid (refbits_any g s hs k' hk' 1 wq HRQ.out)
            unfold RefBitsPost at HA
            have hn15 := nd_short HC.out hnd
            simp only at hn15
            by_cases hcut : 8 * s.size ≤ k'
            · obtain ⟨e1, e2, e3⟩ := bits_short (n := 1) (by decide) s k' (by omega)
              rw [e1, e2, e3] at HA
              have hRR := HRR.out
              rw [dGo_cut hnla hnd s f k' hcut] at hRR
              obtain ⟨n1, n2, n3⟩ := rnext_of hRR.symm
              have HN := hid (⟨n1, n2, n3.trans (if_neg (by decide))⟩ : nextV l s k = 0 ∧ nextE l s k = 2 ∧ nextK l s k = k)
              clear n1 n2 n3 hRR hnda hnla hnl hnd hrx hkp e1 e2 e3
              go_wp2_with fail
              refine HA.out.mono ?_
              rintro e w2 ⟨rfl, hr2, hk2⟩
              have HR2 := hid hr2
              have HK2 := hid (HKQ.out.trans hk2)
              have y1 := hr2.cell 1
              have yf := hr2.frozen 1
              clear hr2 hk2
              go_wp2
              go_returns
              unfold RNextPost
              rw [HN.out.1, HN.out.2.1, HN.out.2.2]
              exact ⟨rfl, HR2.out.set k, HK2.out.setCell (p := ⟨g, 1, none⟩) (.inl rfl) _⟩
            · obtain ⟨e1, e2, e3⟩ := bits_good 1 (by omega) s k' (by omega)
              have e1' : bitsV s k' 1 = bv s k' 1 := e1
              have e2' : bitsE s k' 1 = 0 := e2
              have e3' : bitsK s k' 1 = k' + 1 := e3
              rw [e1', e2', e3'] at HA
              have hRR := HRR.out
              rw [dGo_on hnla hnd s f k' hcut] at hRR
              have hbv : bv s k' 1 < 2 := bv_lt s k' 1
              clear e1 e2 e3 e1' e2' e3' hnda hnla hnl hnd hrx hkp
              generalize bv s k' 1 = b at *
              have HR3 := hid hRR
              have hu2 : 2 * u + b < 2 ^ (n + 1) := by have := HU.out; rw [Nat.pow_succ]; omega
              have HU2 := hid hu2
              clear hRR hu2
              go_wp2_with fail
              refine HA.out.mono ?_
              rintro e w2 ⟨rfl, hr2, hk2⟩
              have HR2 := hid hr2
              have HK2 := hid (HKQ.out.trans hk2)
              clear hr2 hk2
              go_wp2
              refine ⟨⟨n + 1, 2 * u + b, k' + 1, by omega, by go_num, by go_num, HU2.out, ?_, by omega, HR2.out, HK2.out⟩, by simp [intOf]; omega⟩
              rw [show 16 - (n + 1) = f by omega]
              exact HR3.out
    · obtain rfl : n = 16 := by omega
      have hRR : ((0, 3, k') : Nat × Int × Nat) = nextR l s k := hR
      obtain ⟨n1, n2, n3⟩ := rnext_of hRR.symm
      have HN := hid (⟨n1, n2, n3.trans (if_neg (by decide))⟩ : nextV l s k = 0 ∧ nextE l s k = 3 ∧ nextK l s k = k)
      clear n1 n2 n3 hRR hR hu
      go_wp2
      go_returns
      unfold RNextPost
      rw [HN.out.1, HN.out.2.1, HN.out.2.2]
      exact ⟨rfl, HRX.out.set k, HKP.out.setCell (p := ⟨g, 1, none⟩) (.inl rfl) _⟩
end Go.Proofs.YtkmbgkcpohchhaaGreatDoor
namespace Go.Proofs.YtkmbgkcpohchhaaGreatDoor
open Go.RowKit Go.Conc
set_option linter.unusedVariables false
abbrev TJ : List TypeId := [67, 65, 5]
structure Ref (B : Nat) (w : World) (fb g : Nat) (s : ByteArray) (k : Nat) (out : List UInt8) (lim : Nat) (v : Value) : Prop where
  has : Has w fb 67 #[.pointer (some ⟨g, 0, none⟩), v, .int .i64 lim]
  rd : Rx w g s k
  own : w.ownsRow B 5 1 v out.length (bcs out)
  fb : B ≤ fb
  gb : B ≤ g
  k8 : k ≤ 8 * s.size
  few : out.length ≤ lim
section
variable {B : Nat} {w w' : World} {fb g : Nat} {s : ByteArray} {k : Nat} {out : List UInt8} {lim : Nat} {v : Value}
theorem Ref.ne (h : Ref B w fb g s k out lim v) : fb ≠ g := fun e => by
  have h1 := h.has
  have h2 : Has w g _ _ := h.rd
  subst e
  unfold Has at h1 h2
  rw [h1] at h2
  injection h2 with h2
  injection h2 with _ h2
  exact absurd h2 (by decide)
theorem KT.of_rx {g : Nat} {s : ByteArray} {k : Nat} (h : Rx w g s k) (hB : B ≤ g) (hk : Keeps (· = g) w w') : KT TJ B w w' :=
  KT.of_keeps hk fun i _ e => by subst e; exact ⟨hB, Has.hot (show Has w i _ _ from h) (by decide)⟩
theorem Ref.read (h : Ref B w fb g s k out lim v) {k' : Nat} (hr : Rx w' g s k') (hk : Keeps (· = g) w w') (h8 : k' ≤ 8 * s.size) : Ref B w' fb g s k' out lim v :=
  ⟨hk.has h.has h.ne, hr, own_keep h.own fun b hb => hk.block b (own_lt h.own hb) fun e => by subst e; exact own_ne_has h.own h.rd (by decide) hb, h.fb, h.gb, h8, h.few⟩
theorem Ref.bw (h : Ref B w fb g s k out lim v) (hb : Bw w w') : Ref B w' fb g s k out lim v :=
  ⟨hb.has h.has, hb.has h.rd, hb.own h.own, h.fb, h.gb, h.k8, h.few⟩
theorem Ref.other (h : Ref B w fb g s k out lim v) {T : List TypeId} (hk : KT T B w w') (h1 : 67 ∉ T) (h2 : 65 ∉ T) (h3 : 5 ∉ T) : Ref B w' fb g s k out lim v :=
  ⟨hk.has h.has h1, hk.has h.rd h2, hk.own h.own h3, h.fb, h.gb, h.k8, h.few⟩
theorem Ref.grown (h : Ref B w fb g s k out lim v) {w5 : World} (hg : w.grownBy w5 v.ownBlock) :
    Has w5 fb 67 #[.pointer (some ⟨g, 0, none⟩), v, .int .i64 lim] ∧ Rx w5 g s k ∧ KT TJ B w w5 := by
  have hk := KT.of_grown (T := TJ) (B := B) h.own (Nat.le_refl _) hg (by decide)
  exact ⟨has_grown h.has hg (own_ne_has h.own h.has (by decide)), has_grown h.rd hg (own_ne_has h.own h.rd (by decide)), hk⟩
theorem Ref.app (h : Ref B w fb g s k out lim v) {w5 : World} (hg : w.grownBy w5 v.ownBlock) {out' : List UInt8} {v' : Value} (ho : w5.ownsRow B 5 1 v' out'.length (bcs out')) (hl : out'.length ≤ lim) :
    Ref B (w5.setCell ⟨fb, 1, none⟩ v') fb g s k out' lim v' ∧ KT TJ B w (w5.setCell ⟨fb, 1, none⟩ v') := by
  obtain ⟨h1, h2, h5⟩ := h.grown hg
  have hkt : KT TJ B w5 (w5.setCell ⟨fb, 1, none⟩ v') := (KT.refl w5).setCell (p := ⟨fb, 1, none⟩) h.fb (h1.hot (by decide)) v'
  refine ⟨⟨by simpa using h1.put 1 v', h2.far (fun e => h.ne e.symm) _, own_keep ho fun b hb => Below.heap_setCell w5 _ _ b fun e => ?_, h.fb, h.gb, h.k8, hl⟩, h5.trans hkt⟩
  exact own_ne_has ho h1 (by decide) (by rw [hb, e])
end
def NumR (B : Nat) (fb g : Nat) (s : ByteArray) (out : List UInt8) (lim : Nat) (v : Value) (n : Nat) (er : Int) (k' : Nat) (w : World) (e : Ending) (w' : World) : Prop :=
  e = .returned (.tuple #[.int .i64 n, .int .i64 er]) ∧ Ref B w' fb g s k' out lim v ∧ KT TJ B w w'
structure IntsAt (w : World) (b off : Nat) (l : List Int) : Prop where
  ex : ∃ cur, Has w b 3 cur ∧ ∀ i (h : i < l.length), cur[off + i]? = some (.int .i64 (l[i]'h))
theorem IntsAt.zs {w : World} {b off : Nat} {l : List Int} (h : IntsAt w b off l) : ZsAt w (some ⟨b, off, none⟩) l := fun i hi => by
  obtain ⟨cur, h1, h2⟩ := h.ex
  exact ⟨b, off, rfl, h1.lt, (h1.cell _).trans (h2 i hi)⟩
theorem IntsAt.kt {T : List TypeId} {B : Nat} {w w' : World} {b off : Nat} {l : List Int} (h : IntsAt w b off l) (hk : KT T B w w') (ht : 3 ∉ T) : IntsAt w' b off l := by
  obtain ⟨cur, h1, h2⟩ := h.ex
  exact ⟨cur, hk.has h1 ht, h2⟩
theorem IntsAt.bw {w w' : World} {b off : Nat} {l : List Int} (h : IntsAt w b off l) (hk : Bw w w') : IntsAt w' b off l := h.kt (T := []) (B := 0) (KT.of_bw hk) (by decide)
structure CodeR (w : World) (c : Value) (l : List Int) : Prop where
  ex : ∃ b off len cap rb : Nat, c = .agg #[.slice (some ⟨b, off, none⟩) len cap, .slice (some ⟨rb, 0, none⟩) len len] ∧ l.length = len ∧ IntsAt w b off l ∧ Has w rb 3 (cArr l len len)
  code : IsCode l
theorem CodeR.kt {T : List TypeId} {B : Nat} {w w' : World} {c : Value} {l : List Int} (h : CodeR w c l) (hk : KT T B w w') (ht : 3 ∉ T) : CodeR w' c l := by
  obtain ⟨b, off, len, cap, rb, h1, h2, h3, h4⟩ := h.ex
  exact ⟨⟨b, off, len, cap, rb, h1, h2, h3.kt hk ht, hk.has h4 ht⟩, h.code⟩
theorem CodeR.bw {w w' : World} {c : Value} {l : List Int} (h : CodeR w c l) (hk : Bw w w') : CodeR w' c l := h.kt (T := []) (B := 0) (KT.of_bw hk) (by decide)
section
variable {B : Nat} {w : World} {fb g : Nat} {s : ByteArray} {k : Nat} {out : List UInt8} {lim : Nat} {v : Value}
theorem rsym_any (hs : s.size ≤ 281474976710656) (b off len cap rb : Nat) (l : List Int) (hc : IsCode l) (hl : l.length = len) (hi : IntsAt w b off l) (hcd : Has w rb 3 (cArr l len len)) (h : Ref B w fb g s k out lim v) :
    Calls Tryz.prog 101 #[.slice (some ⟨b, off, none⟩) len cap, .slice (some ⟨rb, 0, none⟩) len len, .pointer (some ⟨g, 0, none⟩)] w (NumR B fb g s out lim v (nextV l s k) (nextE l s k) (nextK l s k) w) := by
  refine (rnext_any (some ⟨b, off, none⟩) len cap rb len g l hl hc s hs k h.k8 w hi.zs (fun b' off' e _ hbg => ?_) hcd h.rd).mono ?_
  · have e1 : (⟨b, off, none⟩ : Addr) = ⟨b', off', none⟩ := Option.some.inj e
    have hb : b = g := (congrArg Addr.block e1).trans hbg
    obtain ⟨cur, h1, _⟩ := hi.ex
    have h2 : Has w g _ _ := h.rd
    rw [hb] at h1
    unfold Has at h1 h2
    rw [h1] at h2
    injection h2 with h2
    injection h2 with _ h2
    exact absurd h2 (by decide)
  · rintro e w' ⟨rfl, hr, hk⟩
    exact ⟨rfl, h.read hr hk (nextK_le l s k h.k8), KT.of_rx h.rd h.gb hk⟩
set_option maxHeartbeats 1000000 in
theorem rbits_ok (hs : s.size ≤ 281474976710656) (n : Nat) (hn : n ≤ 32) (from_ : Nat) (hf : from_ ≤ 100000) (hk : k + n ≤ 8 * s.size) (h : Ref B w fb g s k out lim v) :
    Calls Tryz.prog 66 #[.pointer (some ⟨fb, 0, none⟩), .int .i64 n, .int .i64 from_] w (NumR B fb g s out lim v (from_ + bv s k n) 0 (k + n) w) := by
  have c0 : w.cell? ⟨fb, 0, none⟩ = some (.pointer (some ⟨g, 0, none⟩)) := h.has.cell 0
  have HB := hid (refbits_any g s hs k h.k8 n w h.rd)
  obtain ⟨e1, e2, e3⟩ := bits_good n hn s k hk
  unfold RefBitsPost at HB
  rw [e1, e2, e3] at HB
  have hb := bv_lt32 s k n hn
  have HI := hid h
  clear h e1 e2 e3
  go_enter Tryz.func66, Tryz.ntmps66
  go_wp2_with fail
  refine HB.out.mono ?_
  rintro e w2 ⟨rfl, hr, hk2⟩
  have HI2 := hid (HI.out.read hr hk2 hk)
  have HK := hid (KT.of_rx HI.out.rd HI.out.gb hk2)
  clear hr hk2
  go_wp2
  go_returns
  exact ⟨by simp, HI2.out, HK.out⟩
set_option maxHeartbeats 1000000 in
theorem rbits_bad (hs : s.size ≤ 281474976710656) (n : Nat) (hn : n ≤ 32) (from_ : Nat) (hf : from_ ≤ 100000) (hk : ¬ k + n ≤ 8 * s.size) (h : Ref B w fb g s k out lim v) :
    Calls Tryz.prog 66 #[.pointer (some ⟨fb, 0, none⟩), .int .i64 n, .int .i64 from_] w (NumR B fb g s out lim v from_ 2 k w) := by
  have c0 : w.cell? ⟨fb, 0, none⟩ = some (.pointer (some ⟨g, 0, none⟩)) := h.has.cell 0
  have HB := hid (refbits_any g s hs k h.k8 n w h.rd)
  obtain ⟨e1, e2, e3⟩ := bits_short (n := n) (decide_eq_true ⟨by omega, by omega⟩) s k (by omega)
  unfold RefBitsPost at HB
  rw [e1, e2, e3] at HB
  have HI := hid h
  clear h e1 e2 e3 hk
  go_enter Tryz.func66, Tryz.ntmps66
  go_wp2_with fail
  refine HB.out.mono ?_
  rintro e w2 ⟨rfl, hr, hk2⟩
  have HI2 := hid (HI.out.read hr hk2 HI.out.k8)
  have HK := hid (KT.of_rx HI.out.rd HI.out.gb hk2)
  clear hr hk2
  go_wp2
  go_returns
  exact ⟨by simp, HI2.out, HK.out⟩
end
end Go.Proofs.YtkmbgkcpohchhaaGreatDoor
namespace Go.Proofs.YtkmbgkcpohchhaaGreatDoor
open Go.RowKit Go.Conc
set_option linter.unusedVariables false
section
variable {w : World} {B : Nat}
set_option maxHeartbeats 1000000 in
theorem rcoded_ok (b off len cap : Nat) (l : List Int) (hl : l.length = len) (hE : checkE l = 0) (hi : IntsAt w b off l) :
    Calls Tryz.prog 68 #[.slice (some ⟨b, off, none⟩) len cap] w fun e w' => ∃ c, e = .returned (.tuple #[c, .bool true]) ∧ CodeR w' c l ∧ ∀ T : List TypeId, KT T B w w' := by
  have HC := hid (fun (W : World) (hz : ZsAt W (some ⟨b, off, none⟩) l) => rcodes_ok (some ⟨b, off, none⟩) len cap l (hid hl) hE W hz)
  have HI := hid hi
  have HL := hid hl
  have HCO := hid (IsCode.of_check hE)
  have HW := hid (show Bw w (w.alloc (.cells #[.slice none 0 0, .slice none 0 0] 129)) from (Bw.refl w).alloc _)
  have HN := hid (Has.new w 129 #[.slice none 0 0, .slice none 0 0])
  clear hE hi hl
  go_enter Tryz.func68, Tryz.ntmps68
  go_wp2_with fail
  have HIW := hid (HI.out.bw HW.out)
  obtain ⟨nb, hnb⟩ : ∃ nb, w.heap.size = nb := ⟨_, rfl⟩
  have HNB := hid (show w.heap.size ≤ nb by omega)
  rw [hnb] at HN ⊢
  clear hnb
  generalize w.alloc (.cells #[.slice none 0 0, .slice none 0 0] 129) = W at *
  refine (HC.out W HIW.out.zs).mono ?_
  rintro e w2 ⟨rb, rfl, hrb, hh, hb⟩
  have HN2 := hid (hb.has HN.out)
  have HH := hid hh
  have HB := hid (HW.out.trans hb)
  have HI2 := hid (HIW.out.bw hb)
  have b0 : w2.cell? ⟨nb, 0, none⟩ = some (.slice none 0 0) := HN2.out.cell 0
  have b1 : w2.cell? ⟨nb, 1, none⟩ = some (.slice none 0 0) := HN2.out.cell 1
  have f0 := HN2.out.frozen 0
  have f1 := HN2.out.frozen 1
  clear hb hh hrb
  have HP := hid (has_two HN2.out (.slice (some ⟨b, off, none⟩) len cap) (.slice (some ⟨rb, 0, none⟩) len len))
  have HK := hid (((KT.refl (T := [129]) (B := 0) w2).setCell (p := ⟨nb, 0, none⟩) (Nat.zero_le _) (HN2.out.hot (by decide)) (.slice (some ⟨b, off, none⟩) len cap)).setCell (p := ⟨nb, 1, none⟩) (Nat.zero_le _) ((HN2.out.put 0 (.slice (some ⟨b, off, none⟩) len cap)).hot (by decide)) (.slice (some ⟨rb, 0, none⟩) len len))
  have HKX := hid (fun T : List TypeId => (KT.of_bw HB.out : KT T B w w2).fresh HNB.out (.slice (some ⟨b, off, none⟩) len cap) (.slice (some ⟨rb, 0, none⟩) len len))
  go_wp2
  generalize World.setCell (World.setCell w2 _ _) _ _ = W9 at *
  have p0 : W9.cell? ⟨nb, 0, none⟩ = some (.slice (some ⟨b, off, none⟩) len cap) := HP.out.cell 0
  have p1 : W9.cell? ⟨nb, 1, none⟩ = some (.slice (some ⟨rb, 0, none⟩) len len) := HP.out.cell 1
  try simp only [Exit.inBlock, Exit.then]
  refine bodyPost_ret (by simp [results, Tryz.results68, go_sem, p0, p1]; try rfl) rfl ?_
  exact ⟨_, rfl, ⟨⟨b, off, len, cap, rb, rfl, HL.out, HI2.out.kt HK.out (by decide), HK.out.has HH.out (by decide)⟩, HCO.out⟩, HKX.out⟩
set_option maxHeartbeats 1000000 in
theorem rcoded_bad (b off len cap : Nat) (l : List Int) (hl : l.length = len) (hE : checkE l ≠ 0) (hi : IntsAt w b off l) :
    Calls Tryz.prog 68 #[.slice (some ⟨b, off, none⟩) len cap] w fun e w' => e = .returned (.tuple #[.agg #[.slice (some ⟨b, off, none⟩) len cap, .slice none 0 0], .bool false]) ∧ ∀ T : List TypeId, KT T B w w' := by
  have HC := hid (fun (W : World) (hz : ZsAt W (some ⟨b, off, none⟩) l) => rcodes_bad (some ⟨b, off, none⟩) len cap l (hid hl) hE W hz)
  have HI := hid hi
  have t0 : (checkE l == 0) = false := by simp [hE]
  generalize checkE l = ce at *
  have HW := hid (show Bw w (w.alloc (.cells #[.slice none 0 0, .slice none 0 0] 129)) from (Bw.refl w).alloc _)
  have HN := hid (Has.new w 129 #[.slice none 0 0, .slice none 0 0])
  clear hE hi hl
  go_enter Tryz.func68, Tryz.ntmps68
  go_wp2_with fail
  have HIW := hid (HI.out.bw HW.out)
  obtain ⟨nb, hnb⟩ : ∃ nb, w.heap.size = nb := ⟨_, rfl⟩
  have HNB := hid (show w.heap.size ≤ nb by omega)
  rw [hnb] at HN ⊢
  clear hnb
  generalize w.alloc (.cells #[.slice none 0 0, .slice none 0 0] 129) = W at *
  refine (HC.out W HIW.out.zs).mono ?_
  rintro e w2 ⟨rfl, hb⟩
  have HN2 := hid (hb.has HN.out)
  have HB := hid (HW.out.trans hb)
  have b0 : w2.cell? ⟨nb, 0, none⟩ = some (.slice none 0 0) := HN2.out.cell 0
  have b1 : w2.cell? ⟨nb, 1, none⟩ = some (.slice none 0 0) := HN2.out.cell 1
  have f0 := HN2.out.frozen 0
  have f1 := HN2.out.frozen 1
  clear hb
  have HP := hid (has_two HN2.out (.slice (some ⟨b, off, none⟩) len cap) (.slice none 0 0))
  have HKX := hid (fun T : List TypeId => (KT.of_bw HB.out : KT T B w w2).fresh HNB.out (.slice (some ⟨b, off, none⟩) len cap) (.slice none 0 0))
  go_wp2
  generalize World.setCell (World.setCell w2 _ _) _ _ = W9 at *
  have p0 : W9.cell? ⟨nb, 0, none⟩ = some (.slice (some ⟨b, off, none⟩) len cap) := HP.out.cell 0
  have p1 : W9.cell? ⟨nb, 1, none⟩ = some (.slice none 0 0) := HP.out.cell 1
  try simp only [Exit.inBlock, Exit.then]
  refine bodyPost_ret (by simp [results, Tryz.results68, go_sem, p0, p1]; try rfl) rfl ?_
  exact ⟨rfl, HKX.out⟩
end
end Go.Proofs.YtkmbgkcpohchhaaGreatDoor
namespace Go.Proofs.YtkmbgkcpohchhaaGreatDoor
open Go.RowKit
set_option linter.unusedVariables false
def litF_i (i : Nat) : Nat := if i < 144 ∨ 279 < i then 8 else if i < 256 then 9 else 7
theorem fill_fixL : fillArr litF_i 288 288 = fA fixL 288 288 := by kernel_rfl
theorem fill_fixD : fillArr (fun _ => 5) 32 32 = fA fixD 32 32 := by kernel_rfl
theorem fA_ints {w : World} {b : Nat} {l : List Int} {n : Nat} (h : Has w b 3 (fA l n n)) (hl : l.length = n) : IntsAt w b 0 l := ⟨_, h, fun i hi => by
  rw [Nat.zero_add, fA_get l n n i (by omega), if_pos (by omega)]
  simp [List.getD, hi]⟩
theorem rfixed_any (w : World) :
    Calls Tryz.prog 33 #[] w fun e w' => ∃ g1 g2 : Nat, e = .returned (.tuple #[.slice (some ⟨g1, 0, none⟩) 288 288, .slice (some ⟨g2, 0, none⟩) 32 32]) ∧ IntsAt w' g1 0 fixL ∧ IntsAt w' g2 0 fixD ∧ Bw w w' := by
  refine (rfixed0_any w).mono ?_
  rintro e w' ⟨g1, g2, rfl, h1, h2, hb⟩
  exact ⟨g1, g2, rfl, fA_ints (h1.eq fill_fixL) fixL_len, fA_ints (h2.eq fill_fixD) (by decide +kernel), hb⟩
def ordA : Array Value := (ordL.map fun (x : Nat) => Value.int .i64 x).toArray
theorem ordA_eq : (#[.int .i64 16, .int .i64 17, .int .i64 18, .int .i64 0, .int .i64 8, .int .i64 7, .int .i64 9, .int .i64 6, .int .i64 10, .int .i64 5, .int .i64 11, .int .i64 4, .int .i64 12, .int .i64 3, .int .i64 13, .int .i64 2, .int .i64 14, .int .i64 1, .int .i64 15] : Array Value) = ordA := by kernel_rfl
theorem ordA_get (i : Nat) (h : i < 19) : ordA[i]? = some (.int .i64 (ordL.getD i 0 : Nat)) := by
  have h' : i < ordL.length := h
  simp [ordA, List.getElem?_eq_getElem h', List.getD]
theorem order_any (w : World) :
    Calls Tryz.prog 121 #[] w fun e w' => ∃ g1 : Nat, e = .returned (.slice (some ⟨g1, 0, none⟩) 19 19) ∧ w.heap.size ≤ g1 ∧ Has w' g1 3 ordA ∧ Bw w w' := by
  have H1 := hid ((Has.new w 3 #[.int .i64 16, .int .i64 17, .int .i64 18, .int .i64 0, .int .i64 8, .int .i64 7, .int .i64 9, .int .i64 6, .int .i64 10, .int .i64 5, .int .i64 11, .int .i64 4, .int .i64 12, .int .i64 3, .int .i64 13, .int .i64 2, .int .i64 14, .int .i64 1, .int .i64 15]).eq ordA_eq)
  have H2 := hid (show Bw w (w.alloc (.cells #[.int .i64 16, .int .i64 17, .int .i64 18, .int .i64 0, .int .i64 8, .int .i64 7, .int .i64 9, .int .i64 6, .int .i64 10, .int .i64 5, .int .i64 11, .int .i64 4, .int .i64 12, .int .i64 3, .int .i64 13, .int .i64 2, .int .i64 14, .int .i64 1, .int .i64 15] 3)) from (Bw.refl w).alloc _)
  go_enter Tryz.func121, Tryz.ntmps121
  go_wp2
  go_returns
  exact ⟨_, rfl, Nat.le_refl _, H1.out, H2.out⟩
end Go.Proofs.YtkmbgkcpohchhaaGreatDoor

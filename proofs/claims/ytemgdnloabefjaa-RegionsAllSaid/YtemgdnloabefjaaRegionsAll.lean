/- RegionsAll returns true for every list of spans and every span, and changes nothing that was there; no condition. -/
import Derived.Test.YtemgdnloabefjaaRegQ
import Derived.Test.YtemgdnloabefjaaRegY
import Derived.Test.YtemgdnloabefjaaSpanKit
import Derived.StillTailTactics
import Derived.SizedLaws
import Derived.Test.YtemgdnloabefjaaRegPl
import Derived.Test.YtemgdnloabefjaaRegPm
import Derived.Deep.QuietTactic
import Derived.BigQuiet
import Derived.ProofKit
import Derived.OpenShut
import Derived.ShutString
import Derived.ChangeOld
namespace Go.Proofs.Ytemgdnloabefjaa.regionsAll
open Go.RowKit Go.ChangeShapes Go.WideShapes Go.ChangeAt
set_option linter.unusedVariables false
theorem gap_cells {w : World} {b n cap : Nat} {G : List (Nat × Nat)} (h : w.ownsRow 0 31 2 (.slice (some ⟨b, 0, none⟩) n cap) n (spanCells G)) (hn : G.length = n) {i : Nat} (hi : i < n) :
    w.cell? ⟨b, i * 2, none⟩ = some (.int .i64 ((G[i]'(by omega)).1 : Nat)) ∧ w.cell? ⟨b, i * 2 + 1, none⟩ = some (.int .i64 ((G[i]'(by omega)).2 : Nat)) := by
  have hc := h.cells (g := b) rfl
  obtain ⟨h3, h4⟩ := spanCells_get G i (by omega)
  have k3 := hc _ _ h3
  have k4 := hc _ _ h4
  rw [addr_add] at k3 k4
  exact ⟨k3, k4⟩
theorem own_lt' {w : World} {B : Nat} {e : TypeId} {size n : Nat} {v : Value} {xs : List Value} (h : w.ownsRow B e size v n xs) {b : Nat} (hb : v.ownBlock = some b) : b < w.heap.size := own_ltJ h hb
/-- A set of the call's own, beside a row that it owns. -/
def One2 (w0 : World) (v : Value) (w : World) (g : Nat) (L : List PartR) : Prop := ∃ P : Nat → Prop, SetP P w g L ∧ (∀ i, P i → w0.heap.size ≤ i) ∧ (∀ b, v.ownBlock = some b → ¬ P b ∧ b < w.heap.size) ∧ Bw w0 w
theorem One2.at {w0 w : World} {v : Value} {g : Nat} {L : List PartR} (h : One2 w0 v w g L) : SetAt w g L := by
  obtain ⟨P, h1, _⟩ := h
  exact h1.at
theorem One2.low {w0 w : World} {v : Value} {g : Nat} {L : List PartR} (h : One2 w0 v w g L) : Bw w0 w := h.choose_spec.2.2.2
theorem One2.bw {w0 w w' : World} {v : Value} {g : Nat} {L : List PartR} (h : One2 w0 v w g L) (hb : Bw w w') : One2 w0 v w' g L := by
  obtain ⟨P, h1, h2, h3, h4⟩ := h
  exact ⟨P, h1.bw hb, h2, fun b e => ⟨(h3 b e).1, Nat.lt_of_lt_of_le (h3 b e).2 hb.size⟩, h4.trans hb⟩
theorem One2.start {w0 wr w : World} {t : TypeId} {size n : Nat} {xs : List Value} {v : Value} {g : Nat} {L : List PartR} (h : One w0 wr g L) (hb : Bw wr w) (hv : w.ownsRow wr.heap.size t size v n xs) : One2 w0 v w g L := by
  obtain ⟨P, h1, h2, h3⟩ := h
  have h4 : SetP (fun i => P i ∧ i < wr.heap.size) wr g L := h1.mono fun i hi hp => ⟨hp, hi⟩
  exact ⟨_, h4.bw hb, fun i hi => h2 i hi.1, fun b e => ⟨fun hp => by have := own_ge hv e; omega, own_lt' hv e⟩, h3.trans hb⟩
theorem one2_add (w0 : World) (v : Value) (g : Nat) (L : List PartR) (hR : Rising L) (h9 : L.length ≤ 1000) (lo hi x : Int) (w : World) (hs : One2 w0 v w g L) :
    Calls Try.prog 17 #[.pointer (some ⟨g, 0, none⟩), .int .i64 lo, .int .i64 hi, .int .i64 x] w fun e w' => e = .returned (.int .i64 (addE L lo hi)) ∧ One2 w0 v w' g (addL L lo hi x) ∧ (∀ b, v.ownBlock = some b → w'.heap[b]? = w.heap[b]?) := by
  obtain ⟨P, h1, h2, h3, h4⟩ := hs
  exact (add_any P g L hR h9 lo hi x w h1).mono fun e w' ⟨a, b⟩ => ⟨a, ⟨_, b.1, fun i hi => hi.elim (h2 i) fun hi => Nat.le_trans h4.size hi, fun c e => ⟨fun hp => hp.elim (h3 c e).1 fun hp => by have := (h3 c e).2; omega, Nat.lt_of_lt_of_le (h3 c e).2 b.2.size⟩, Below.trans h4 (b.2.below h4.size h2)⟩, fun c e => b.2.block c (h3 c e).2 (h3 c e).1⟩

set_option maxRecDepth 100000 in
set_option maxHeartbeats 8000000 in
theorem walk (a : Option Addr) (len cap : Nat) (hlen : len ≤ 9223372036854775807) (l : List SpR) (hll : Hid (l.length = len)) (lo hi : Int) (w : World) (hst : SpansIn w a l) :
    Calls Try.prog 5 #[.slice a len cap, .int .i64 lo, .int .i64 hi] w fun e w' => e = .returned (.bool true) ∧ Bw w w' := by
  have HL := hid live_any
  have HST := hid hst
  have A7 := hid (fun (W : World) => new_has W)
  clear hst
  go_enter Try.func5, Try.ntmps5
  go_wp2_with fail
  refine (A7.out _).mono ?_
  rintro e w1 ⟨g, rfl, hh, hg, hb⟩
  have H1 := hid (One.start hh hg hb)
  clear hh hg hb
  go_wp2_with fail
  go_loopw [8] (fun i wr => ∃ k : Nat, k ≤ len ∧ k ≤ 60 ∧ i = .int .i64 k ∧ Hid (∃ L, Rising L ∧ L.length ≤ k ∧ True ∧ One w wr g L)) (fun i _ => 60 - (intOf i).toNat)
  case atStart => exact ⟨0, Nat.zero_le _, Nat.zero_le _, rfl, hid ⟨[], trivial, Nat.le_refl _, trivial, H1.out⟩⟩
  case round =>
    rename World => wr
    obtain ⟨k, hk, hk60, rfl, HB⟩ := hrel
    have hor : (k < len ∧ k < 60) ∨ (k < len ∧ ¬ k < 60) ∨ ¬ k < len := by omega
    rcases hor with ⟨hlt, h60⟩ | hend
    · have hlti : (k : Int) < len := by omega
      have h60i : (k : Int) < 60 := by omega
      obtain ⟨L, hR, hLk, hI, hB⟩ := HB.out
      have HR := hid hR
      have HBB := hid hB
      have HII := hid hI
      have hkl : k < l.length := by rw [hll.out]; exact hlt
      obtain ⟨b, off, rfl, hbl, q0, q1⟩ := HST.out k hkl
      have HLQ := hid (List.getElem?_eq_getElem hkl)
      generalize l[k] = q at *
      have c0 := hB.low.cell q0
      have c1 := hB.low.cell q1
      have hw1 : IntKind.i64.wrap ((k : Int) + 1) = (k : Int) + 1 := by rw [IntKind.wrap_i64]; omega
      clear hB hR hkl q0 q1 hI
      go_wp2_with fail
      refine wp_region_still_tail 12 (by kernel_rfl) (by kernel_rfl) ?_
      simp only [List.take_succ_cons, List.take_zero, List.drop_succ_cons, List.drop_zero]
      repeat still_step
      refine wpStill_nil ?_
      change wpList _ _ _ _ _ wr.drew
      have HB1 := hid (HBB.out.bw ((Bw.refl wr).drewN 1))
      go_wp2_with fail
      refine (one_add w g L HR.out (by omega) _ _ _ _ HB1.out).mono ?_
      rintro e w2 ⟨rfl, hB2⟩
      have HB2 := hid hB2
      clear hB2 c0 c1
      go_wp2
      go_roundw
      case rel => exact ⟨k + 1, by omega, by omega, by go_num, hid ⟨_, addL_rising HR.out _ _ _, Nat.le_trans (addL_len _ _ _ _) (by omega), trivial, HB2.out⟩⟩
      case measure => simp [intOf]; omega
    · have hcase : (¬ (k : Int) < len) ∨ ((k : Int) < len ∧ ¬ (k : Int) < 60) := by omega
      obtain ⟨L, hR, hLk, hI, hB⟩ := HB.out
      have hL60 : L.length ≤ 60 := by omega
      have HR := hid hR
      have HBB := hid hB
      have HII := hid hI
      clear hR hB hI HB hend hk60
      rcases hcase with hlti | ⟨hlti, h60i⟩
      all_goals
        have hsp : (lo < 0 ∨ (¬ lo < 0 ∧ hi ≤ lo) ∨ (¬ lo < 0 ∧ ¬ hi ≤ lo ∧ 4611686018427387904 < hi)) ∨ (0 ≤ lo ∧ lo < hi ∧ hi ≤ 4611686018427387904) := by omega
        rcases hsp with hbad | ⟨s1, s2, s3⟩
        · have hsf : spB lo hi = false := decide_eq_false (by omega)
          have HCV := hid (fun W => covered_no g lo hi W hsf)
          clear hsf
          rcases hbad with b1 | ⟨b1, b2⟩ | ⟨b1, b2, b3⟩
          · have d1 : decide (lo < 0) = true := decide_eq_true b1
            go_wp2_with fail
            refine (HCV.out _).mono ?_
            rintro e w3 ⟨rfl, hb3⟩
            have HB3 := hid (HBB.out.bw hb3)
            clear hb3
            go_wp2_with fail
            refine (HL.out _).mono ?_
            rintro e w4 ⟨rfl, hb4⟩
            have HB4 := hid (HB3.out.bw hb4)
            clear hb4
            go_wp2
            go_returns
            exact ⟨rfl, HB4.out.low⟩
          · have d1 : decide (lo < 0) = false := decide_eq_false b1
            have d2 : decide (hi ≤ lo) = true := decide_eq_true b2
            go_wp2_with fail
            refine (HCV.out _).mono ?_
            rintro e w3 ⟨rfl, hb3⟩
            have HB3 := hid (HBB.out.bw hb3)
            clear hb3
            go_wp2_with fail
            refine (HL.out _).mono ?_
            rintro e w4 ⟨rfl, hb4⟩
            have HB4 := hid (HB3.out.bw hb4)
            clear hb4
            go_wp2
            go_returns
            exact ⟨rfl, HB4.out.low⟩
          · have d1 : decide (lo < 0) = false := decide_eq_false b1
            have d2 : decide (hi ≤ lo) = false := decide_eq_false b2
            have d3 : decide (4611686018427387904 < hi) = true := decide_eq_true b3
            go_wp2_with fail
            refine (HCV.out _).mono ?_
            rintro e w3 ⟨rfl, hb3⟩
            have HB3 := hid (HBB.out.bw hb3)
            clear hb3
            go_wp2_with fail
            refine (HL.out _).mono ?_
            rintro e w4 ⟨rfl, hb4⟩
            have HB4 := hid (HB3.out.bw hb4)
            clear hb4
            go_wp2
            go_returns
            exact ⟨rfl, HB4.out.low⟩
        · have d1 : decide (lo < 0) = false := decide_eq_false (by omega)
          have d2 : decide (hi ≤ lo) = false := decide_eq_false (by omega)
          have d3 : decide (4611686018427387904 < hi) = false := decide_eq_false (by omega)
          have hspt : spB lo hi = true := decide_eq_true ⟨s1, s2, s3⟩
          obtain ⟨lo, rfl⟩ : ∃ m : Nat, lo = m := ⟨lo.toNat, by omega⟩
          obtain ⟨hi, rfl⟩ : ∃ m : Nat, hi = m := ⟨hi.toNat, by omega⟩
          have hlh : lo < hi := by omega
          have hh2 : hi ≤ 4611686018427387904 := by omega
          have HG := hid (gaps_ok g L HR.out (by omega) lo hi wr HBB.out.at hspt)
          have HCV := hid (fun W (h : Bw wr W) => covered_ok g L HR.out (by omega) lo hi W (HBB.out.bw h).at hspt)
          have HSPT := hid hspt
          clear hspt
          go_wp2_with fail
          refine HG.out.mono ?_
          rintro e w3 ⟨v, rfl, hown, hb3⟩
          obtain ⟨vo, vc, rfl⟩ := own_slice hown
          have HB3 := hid hb3
          have HOW := hid (own_low' hown)
          have HOS := hid (One2.start HBB.out hb3 hown)
          clear hown hb3
          obtain ⟨hgin, hgpair, hglen, hgfree, hgl⟩ := gaps_are HR.out hlh
          have HGIN := hid hgin
          have HGLEN := hid hglen
          clear hgin hgpair hglen hgfree
          go_wp2_with fail
          refine (HCV.out _ HB3.out).mono ?_
          rintro e w4 ⟨rfl, hb4⟩
          have HB4 := hid (HB3.out.trans hb4)
          have HO4 := hid (hb4.own HOW.out)
          have HOS := hid (HOS.out.bw hb4)
          clear hb4
          obtain ⟨ng, hng⟩ : ∃ ng, (rgaps L lo hi).length = ng := ⟨_, rfl⟩
          have HNG := hid hng
          rw [hng] at HO4 HOS hgl ⊢
          clear hng
          have hsz := HB4.out.size
          have HO2 := hid (HOS.out)
          go_wp2_with fail
          go_loopw [10, 11] (fun n t wq => ∃ i : Nat, i ≤ ng ∧ t = .int .i64 i ∧ n = .int .i64 (covN L lo hi + lenS ((rgaps L lo hi).take i) : Nat) ∧ Hid (∃ M, Filled L (rgaps L lo hi) lo hi i M ∧ One2 w (.slice vo ng vc) wq g M) ∧ wq.ownsRow 0 31 2 (.slice vo ng vc) ng (spanCells (rgaps L lo hi))) (fun _ t _ => ng - (intOf t).toNat)
          case atStart => exact ⟨0, Nat.zero_le _, rfl, by simp [lenS], hid ⟨L, filled_zero HR.out _ _ _, HO2.out⟩, HO4.out⟩
          case round =>
            rename World => wq
            obtain ⟨i, hi', rfl, rfl, HF, hown⟩ := hrel
            have HOW2 := hid hown
            clear hown
            by_cases hlt : i < ng
            · obtain ⟨M, hF, hO⟩ := HF.out
              obtain ⟨rb, rcap, hrb⟩ := own_some HOW2.out (by omega)
              obtain ⟨rfl, rfl⟩ : vo = some ⟨rb, 0, none⟩ ∧ vc = rcap := by simpa using hrb
              clear hrb
              have hil : i < (rgaps L lo hi).length := by rw [HNG.out]; exact hlt
              obtain ⟨q0, q1⟩ := gap_cells HOW2.out HNG.out hlt
              have hst := filled_step HR.out hlh hh2 hil hF
              have hin := HGIN.out _ (List.getElem_mem hil)
              have hle := len_take_le HR.out hlh hil
              have hsn : lenS ((rgaps L lo hi).take (i + 1)) = lenS ((rgaps L lo hi).take i) + ((rgaps L lo hi)[i].2 - (rgaps L lo hi)[i].1) := by rw [List.take_succ_eq_append_getElem hil, lenS_snoc]
              have HADD := hid (fun W h => one2_add w (.slice (some ⟨rb, 0, none⟩) ng vc) g M hF.rise (by have := hF.len; omega) ((rgaps L lo hi)[i].1 : Nat) ((rgaps L lo hi)[i].2 : Nat) 1 W h)
              rw [hst.1] at HADD
              have HFN := hid hst.2
              have HSN := hid hsn
              have HOO := hid hO
              rw [hsn] at hle
              clear hst hsn hO hF HF
              generalize (rgaps L lo hi)[i] = gg at *
              clear hil
              obtain ⟨ga, gb⟩ := gg
              generalize lenS ((rgaps L lo hi).take i) = ls at *
              generalize covN L lo hi = cv at *
              dsimp only at *
              obtain ⟨hin1, hin2, hin3⟩ := hin
              have HQ0 := hid q0
              have HQ1 := hid q1
              have hti : (i : Int) < ng := by omega
              have t1 : decide ((ga : Int) < lo) = false := decide_eq_false (by omega)
              have t2 : decide ((hi : Int) < gb) = false := decide_eq_false (by omega)
              have t3 : decide ((gb : Int) ≤ ga) = false := decide_eq_false (by omega)
              have t4 : decide (ga < lo) = false := decide_eq_false (by omega)
              have t5 : decide (hi < gb) = false := decide_eq_false (by omega)
              have t6 : decide (gb ≤ ga) = false := decide_eq_false (by omega)
              go_wp2_with fail
              refine wp_region_still_tail 41 (by kernel_rfl) (by kernel_rfl) ?_
              simp only [List.take_succ_cons, List.take_zero, List.drop_succ_cons, List.drop_zero]
              repeat still_step
              refine wpStill_nil ?_
              change wpList _ _ _ _ _ wq.drew
              have HO1 := hid (HOO.out.bw ((Bw.refl wq).drewN 1))
              clear q0 q1 t1 t2 t3 t4 t5 t6
              go_wp2_with fail
              refine (HADD.out _ HO1.out).mono ?_
              rintro e w5 ⟨rfl, hO5, hk5⟩
              have HO5 := hid hO5
              have HW5 : Hid (w5.ownsRow 0 31 2 (.slice (some ⟨rb, 0, none⟩) ng vc) ng (spanCells (rgaps L lo hi))) := hid (own_keep HOW2.out fun b hb => hk5 b hb)
              have y0 : w5.cell? ⟨rb, i * 2, none⟩ = some (.int .i64 ga) := (World.cell?_of_block (hk5 rb rfl)).trans HQ0.out
              have y1 : w5.cell? ⟨rb, i * 2 + 1, none⟩ = some (.int .i64 gb) := (World.cell?_of_block (hk5 rb rfl)).trans HQ1.out
              have hw2 : IntKind.i64.wrap ((cv : Int) + ls + gb) = (cv : Int) + ls + gb := by rw [IntKind.wrap_i64]; omega
              have hw3 : IntKind.i64.wrap ((cv : Int) + ls + gb - ga) = (cv : Int) + ls + gb - ga := by rw [IntKind.wrap_i64]; omega
              clear hO5 hk5
              go_wp2_with fail
              go_quiet (fail)
              go_wp2
              exact ⟨⟨i + 1, by omega, by go_num, by rw [HSN.out]; exact congrArg (Value.int .i64) (by omega), hid ⟨_, HFN.out, HO5.out.bw ((Bw.refl w5).drewN nq)⟩, ((Bw.refl w5).drewN nq).own HW5.out⟩, by simp [intOf]; omega⟩
            · obtain rfl : i = ng := by omega
              obtain ⟨M, hF, hO⟩ := HF.out
              have hle := hF.len
              have hcv := hF.cov
              rw [← HNG.out] at hF
              obtain ⟨e1, e2⟩ := filled_end HR.out hlh hF
              have hcast : ((covN L lo hi + lenS ((rgaps L lo hi).take i) : Nat) : Int) = (hi : Int) - lo := by omega
              rw [hcast]
              have HGA := hid (gaps_ok g M hF.rise (by omega) lo hi wq hO.at HSPT.out)
              have HCO := hid (fun W (h : Bw wq W) => covered_ok g M hF.rise (by omega) lo hi W (hO.bw h).at HSPT.out)
              rw [e2] at HGA
              rw [e1, show ((hi - lo : Nat) : Int) = (hi : Int) - lo by omega] at HCO
              have HLOW := hid hO.low
              clear hF hO hle hcv e1 e2 hcast HF
              go_wp2_with fail
              refine HGA.out.mono ?_
              rintro e w5 ⟨v5, rfl, hown5, hb5⟩
              obtain ⟨vo5, vc5, rfl⟩ := own_slice hown5
              have HB5 := hid hb5
              clear hown5 hb5
              go_wp2_with fail
              refine (HCO.out _ HB5.out).mono ?_
              rintro e w6 ⟨rfl, hb6⟩
              have HB6 := hid (HB5.out.trans hb6)
              clear hb6
              go_wp2_with fail
              refine (HL.out _).mono ?_
              rintro e w7 ⟨rfl, hb7⟩
              have HB7 := hid (HB6.out.trans hb7)
              clear hb7
              go_wp2
              go_returns
              exact ⟨rfl, HLOW.out.trans HB7.out⟩

/-! The frame: from the walk to the statement. -/
theorem own : ownKnob Try.prog.godebug = none := by kernel_rfl
theorem laidOut : laidOutB Try.prog = true := by kernel_rfl
set_option maxRecDepth 100000 in
theorem lifted (os : Os) (started : os.Started) (H : Type) (enc : TypeId × Value → H) :
    ReturnsInHanded {} Try.checked os 5 .any (Rows.regionsAllSpec.pre6 enc Try.prog Try.f5 Rows.regionsAllRow.domain false) (Rows.regionsAllSpec.post enc Try.prog Try.f5 false true false false) := by
  refine returnsInHanded_of_change_sized (C := Try.checked) own started (by kernel_rfl) Try.func5
    (ChangeSpec.witness6 (enc := enc) (C := Try.checked) false ⟨#[], #[.slice none 0 0, .int .i64 0, .int .i64 0], []⟩ 8 (by kernel_rfl) (by kernel_rfl) (by kernel_rfl) (by kernel_rfl)) ?_
  intro W base args ds gs before hval0 hW hcnd hsz0 _
  have hval : ∀ (j : Nat) t v, Try.f5.params[j]? = some t → args[j]? = some v → Value.okWide Try.prog W .any base t v := hval0
  have hW' := hW
  obtain ⟨p, q, hA0, hV, rfl, hfz, hnd⟩ := hW
  have hA : DataW.TrodAll enc Try.prog W 0 (fun _ => true) true Try.f5.params.toList args.toList ds p := hA0
  have hsz : (DataW.weightsEach Try.prog (Try.f5.params.toList ++ Rows.regionsAllSpec.plain.varTypes Try.prog) (ds ++ gs)).all (· ≤ reachBytes) = true := hsz0
  rw [Try.params5] at hA hval hsz
  obtain ⟨v0, vs0, d0, ds0, p0, q0, hargs, rfl, rfl, h0, r0⟩ := trodAll_cons hA
  obtain ⟨v1, vs1, d1, ds1, p1, q1, rfl, rfl, rfl, h1, r1⟩ := trodAll_cons r0
  obtain ⟨v2, vs2, d2, ds2, p2, q2, rfl, rfl, rfl, h2, r2⟩ := trodAll_cons r1
  obtain ⟨rfl, rfl, rfl⟩ := trodAll_nil r2
  obtain rfl : args = #[v0, v1, v2] := by cases args; simp_all
  obtain ⟨rfl, rfl⟩ := trodVars_none hV
  have k0 := h0
  have lt0 : ∀ x ∈ p0, x.block < W.heap.size := by obtain ⟨m, hm⟩ := k0; exact DataW.trod_lt m _ _ _ hm
  obtain ⟨oa0, ol0, oc0, rfl⟩ := okWide_slice Try.underlying22 (hval 0 22 v0 rfl rfl)
  obtain ⟨m0, t0⟩ := h0
  obtain ⟨A0, len0, cap0, l0, he0, hl0, hll0, hlc0, hst0⟩ := open_spans t0
  obtain ⟨a1, rfl, rfl, rfl, w1⟩ := open_int Try.underlying3 (hval 1 3 v1 rfl rfl) h1
  obtain ⟨a2, rfl, rfl, rfl, w2⟩ := open_int Try.underlying3 (hval 2 3 v2 rfl rfl) h2
  rw [he0] at hW' k0 ⊢
  clear hA0 hval0
  try simp only [List.append_nil] at hW'
  refine (walk A0 len0 cap0 hl0 l0 hll0 a1 a2 W hst0).mono fun e W' ⟨he, bel⟩ => ?_
  subst he
  exact ⟨_, rfl, _, _, _, [], _, [], hW', trodAll_mk1 (shut_bool Try.underlying4 _), (trodAll_cons_mk (Below.trod laidOut (by kernel_rfl) (of_decide_eq_true (by kernel_rfl)) k0 bel lt0) (trodAll_cons_mk (shut_int Try.underlying3 w1) (trodAll_cons_mk (shut_int Try.underlying3 w2) trodAll_mk0))), rfl, Below.frame bel _, fun h => by cases h⟩

theorem proved : Rows.RegionsAllSaid :=
  OpenClaim.holds_of_wide 5 Try.f5 rfl rfl rfl rfl rfl rfl rfl ⟨rfl, rfl, rfl, rfl, rfl⟩ rfl rfl rfl rfl rfl (by kernel_rfl) Try.func5 (by kernel_rfl)
    (of_decide_eq_true (by kernel_rfl)) (by unfold Func.isWrapper; first | (rw [if_pos (by decide +kernel)]; kernel_rfl) | (rw [if_neg (by decide +kernel)]; exact ⟨rfl, rfl⟩))
    (fun os started H enc _ => lifted os started H enc)
end Go.Proofs.Ytemgdnloabefjaa.regionsAll

/- overlapping's iterator: what it hands to a loop's body (contract of the function). -/
import Derived.Test.YtemgdnloabefjaaRegF
import Derived.Test.YtemgdnloabefjaaRegP
import Derived.RangeFuncNested
import Derived.RangeFuncBound
import Derived.RangeFuncCalls
import Derived.RangeFuncLeaves
import Derived.Shelf.Abstract
import Derived.Shelf.RegionOpen
import Derived.WalkKit
import Derived.OwnWalkIn
import Derived.TacticsInMore
import Derived.LoopNIn
import Derived.LoopIn
import Derived.Deep.RegionHeld3
namespace Go.Proofs.Ytemgdnloabefjaa
open Go.RowKit Go.Conc
set_option linter.unusedVariables false
attribute [local go_sem] Oper.semAt_some
theorem take_while {D : List PartR} {hi : Int} {j : Nat} (h1 : ∀ i (h : i < D.length), i < j → ((D[i]).lo : Int) < hi) (h2 : ∀ h : j < D.length, ¬ ((D[j]).lo : Int) < hi) : D.takeWhile (fun p => decide ((p.lo : Int) < hi)) = D.take j := by
  induction D generalizing j with
  | nil => simp
  | cons p D ih =>
    cases j with
    | zero =>
      have := h2 (by simp)
      rw [List.takeWhile_cons_of_neg (by simpa using this)]
      rfl
    | succ j =>
      have h0 : (p.lo : Int) < hi := h1 0 (by simp) (by omega)
      rw [List.takeWhile_cons_of_pos (by simpa using h0), List.take_succ_cons, ih (fun i h hj => h1 (i + 1) (by simpa using h) (by omega)) (fun h => h2 (by simpa using h))]
theorem J_bw {J : List PartR → World → Prop} {B : Nat} (hJ : AbidesFrom B J) {s : List PartR} {w w' : World} (h : J s w) (hb : Bw w w') : J s w' :=
  hJ s w w' none h ⟨hb.os, hb.tape, hb.output, hb.size, fun i hi _ => hb.block i hi⟩ (fun r e => by cases e)
set_option maxRecDepth 100000 in
set_option maxHeartbeats 4000000 in
theorem over1_nil (m l gs gl gh g : Nat) (hm : 1 ≤ m) (lo hi : Int) (B : Nat) (J : List PartR → World → Prop) (hJ : AbidesFrom B J) (W : World) (hO : OverAt W g gs gl gh lo hi) (hc : W.cell? ⟨g, 0, none⟩ = some (.slice none 0 0)) (h0 : J [] W) :
    CallsIn Fence.wide m Try.prog 75 #[.func (.yield l) #[] #[], .pointer (some ⟨gs, 0, none⟩), .pointer (some ⟨gl, 0, none⟩), .pointer (some ⟨gh, 0, none⟩)] W fun e W' => (∃ v, e = .returned v) ∧ J [] W' := by
  obtain ⟨hs, hl, hh⟩ := hO
  have HJ := hid (fun W' (h : Bw W W') => J_bw hJ h0 h)
  have HL := hid (list_any g _ W hc)
  have HLO := hid hl
  clear hc hJ h0
  refine callsIn_of_wp Try.func75 rfl trivial ?_
  simp only [Try.ntmps75, List.size_toArray, List.length_cons, List.length_nil, Nat.reduceAdd, Nat.reduceSub, Array.replicate_succ, Array.replicate_zero, List.push_toArray, List.append_toArray, List.nil_append, List.cons_append]
  refine wpIn_wide.2 ?_
  go_wp2_with fail
  refine HL.out.mono ?_
  rintro e w1 ⟨rfl, rfl⟩
  go_wp2_with fail
  have HJ1 := hid (HJ.out _ ((Bw.refl W).drewN 1))
  have p0 : W.drew.cell? ⟨gl, 0, none⟩ = some (.int .i64 lo) := hl
  have HB1 : Hid (Bw W W.drew) := hid ((Bw.refl W).drewN 1)
  go_region_held3 (fun w' => w'.cell? ⟨gl, 0, none⟩ = some (.int .i64 lo)) (first | exact p0 | exact q0 | exact r0 | assumption)
    (first
      | (go_at_call 72; refine (search_ret none 0 0 _).mono ?_; rintro e w2 ⟨b1, rfl, hk, hb2⟩; have HB2 := hid (HB1.out.trans hb2); have q0 := HB2.out.cell HLO.out; have HK2 := hid hk; clear hk hb2)
      | (go_at_call 84; refine (sea_nil b1 lo _ HK2.out).mono ?_; rintro e w3 ⟨rfl, hb3⟩; have HB3 := hid (HB2.out.trans hb3); have r0 := HB3.out.cell HLO.out; clear hb3))
  go_wp2
  go_loopw [6, 7] (fun b i wr => b = .int .i64 0 ∧ i = .int .i64 0 ∧ wr = w3) (fun _ _ _ => 0)
  case atStart => exact ⟨rfl, rfl, rfl⟩
  case round =>
    obtain ⟨rfl, rfl, rfl⟩ := hrel
    go_wp2
    go_end0
    exact ⟨⟨_, rfl⟩, HJ.out _ HB3.out⟩
set_option maxRecDepth 100000 in
set_option maxHeartbeats 4000000 in
theorem over1_some (F : Nat → Prop) (m l gs gl gh g : Nat) (hm : 1 ≤ m) (L : List PartR) (hR : Rising L) (lo hi : Int) (B : Nat) (J Jx : List PartR → World → Prop) (hJ : AbidesFrom B J) (W : World) (hO : OverAt W g gs gl gh lo hi) (ob oc ib n cap : Nat) (hoc : 1 ≤ oc) (hn : n = L.length) (hn0 : 0 < n) (hn9 : n ≤ 1000000) (hcap : n ≤ cap)
    (hc : W.cell? ⟨g, 0, none⟩ = some (.slice (some ⟨ob, 0, none⟩) 1 oc)) (k3 : W.cell? ⟨ob, 0, none⟩ = some (.slice (some ⟨ib, 0, none⟩) n cap)) (k4 : W.ownsRow 0 83 3 (.slice (some ⟨ib, 0, none⟩) n cap) n (partCells L))
    (hF1 : ¬ F gh) (hF2 : ¬ F ob) (hF3 : ¬ F ib)
    (hY : ∀ pre x W1, J pre W1 → pre.length < 1000000 → YieldAt Fence.wide (m - 1) Try.prog l #[partV x] W1 fun e W' => (e = .returned (.bool true) ∧ J (pre ++ [x]) W' ∧ Keeps F W1 W') ∨ (e = .returned (.bool false) ∧ Jx (pre ++ [x]) W'))
    (h0 : J [] W) :
    CallsIn Fence.wide m Try.prog 75 #[.func (.yield l) #[] #[], .pointer (some ⟨gs, 0, none⟩), .pointer (some ⟨gl, 0, none⟩), .pointer (some ⟨gh, 0, none⟩)] W fun e W' => (∃ v, e = .returned v) ∧ ((∃ ys, ys = overL L lo hi ∧ J ys W') ∨ (∃ pre, Jx pre W')) := by
  obtain ⟨hs, hl, hh⟩ := hO
  have HJ := hid (fun W' (h : Bw W W') => J_bw hJ h0 h)
  have HJJ := hid (fun pre (A B' : World) (h : J pre A) (hb : Bw A B') => J_bw hJ h hb)
  have HL := hid (list_any g _ W hc)
  have HLO := hid hl
  have HHI := hid hh
  have HC := hid hc
  have HK3 := hid k3
  have HK4 := hid k4
  have HY := hid hY
  have HN := hid hn
  have hfl := fst_le L lo
  clear hc hJ h0 k3 k4 hh hY hn
  refine callsIn_of_wp Try.func75 rfl trivial ?_
  simp only [Try.ntmps75, List.size_toArray, List.length_cons, List.length_nil, Nat.reduceAdd, Nat.reduceSub, Array.replicate_succ, Array.replicate_zero, List.push_toArray, List.append_toArray, List.nil_append, List.cons_append]
  refine wpIn_wide.2 ?_
  go_wp2_with fail
  refine HL.out.mono ?_
  rintro e w1 ⟨rfl, rfl⟩
  go_wp2_with fail
  have p0 : W.drew.cell? ⟨gl, 0, none⟩ = some (.int .i64 lo) := hl
  have HB1 : Hid (Bw W W.drew) := hid ((Bw.refl W).drewN 1)
  go_region_held3 (fun w' => w'.cell? ⟨gl, 0, none⟩ = some (.int .i64 lo)) (first | exact p0 | exact q0 | exact r0 | assumption)
    (first
      | (go_at_call 72; refine (search_ret _ 1 oc _).mono ?_; rintro e w2 ⟨b1, rfl, hk, hb2⟩; have HB2 := hid (HB1.out.trans hb2); have q0 := HB2.out.cell HLO.out; have HK2 := hid hk; clear hk hb2)
      | (go_at_call 84; refine (sea_some b1 ob oc ib n cap L hR lo hoc HN.out hn0 (by omega) _ HK2.out (HB2.out.cell HK3.out) (HB2.out.own HK4.out)).mono ?_; rintro e w3 ⟨rfl, hb3⟩; have HB3 := hid (HB2.out.trans hb3); have r0 := HB3.out.cell HLO.out; clear hb3))
  clear p0 q0 r0
  by_cases hf : fstI L lo < L.length
  · have e1 : seaB L lo = 0 := if_pos hf
    have e2 : seaI L lo = fstI L lo := if_pos hf
    rw [e1, e2]
    clear e1 e2
    obtain ⟨i0, hi0⟩ : ∃ i0, fstI L lo = i0 := ⟨_, rfl⟩
    rw [hi0] at hf ⊢
    have HI0 := hid hi0
    have hin : i0 < n := by have := HN.out; omega
    have e0 : ((0 : Nat) : Int) = 0 := rfl
    rw [e0]
    clear hfl e0 hi0
    go_wp2
    refine (wpIn_wide (n := m)).1 ?_
    have HJ3 := hid (HJ.out _ HB3.out)
    gi_loopw [6, 7] (fun b i wr => ∃ bb ii : Nat, bb ≤ 1 ∧ b = .int .i64 bb ∧ i = .int .i64 ii ∧ Hid (bb = 0 → ii = i0 ∧ J [] wr) ∧ Hid (bb = 1 → J (overL L lo hi) wr) ∧ Keeps F w3 wr) (fun b _ _ => 1 - (intOf b).toNat)
    case atStart => exact ⟨0, i0, Nat.zero_le _, rfl, rfl, hid (fun _ => ⟨rfl, HJ3.out⟩), hid (fun h => by omega), Keeps.refl _ _⟩
    case round =>
      rename World => wr
      obtain ⟨bb, ii, hbb, rfl, rfl, HA, HB, hk⟩ := hrel
      have HKK := hid hk
      clear hk
      by_cases hb1 : bb < 1
      · obtain rfl : bb = 0 := by omega
        obtain ⟨hii, hj0⟩ := HA.out rfl
        subst hii
        have e0 : ((0 : Nat) : Int) = 0 := rfl
        rw [e0]
        have k3 : wr.cell? ⟨ob, 0, none⟩ = some (.slice (some ⟨ib, 0, none⟩) n cap) := by
          have h1 := HB3.out.cell HK3.out
          exact (World.cell?_of_block (HKK.out.block ob (cell_lt h1) hF2)).trans h1
        have hcne : ¬ cap = ii := by omega
        have hcne2 : ¬ (cap : Int) = ii := by omega
        gi_wp2
        generalize hq : n - ii = q at *
        have HQ := hid hq
        have HU := hid hin
        have hq9 : q ≤ 1000000 := by omega
        clear hq
        gi_loopw [32] (fun i wi => ∃ j : Nat, j ≤ q ∧ i = .int .i64 j ∧ Hid (J ((L.drop ii).take j) wi) ∧ Hid (∀ i (h : i < (L.drop ii).length), i < j → (((L.drop ii)[i]).lo : Int) < hi) ∧ Keeps F w3 wi) (fun i _ => q - (intOf i).toNat)
        case atStart => exact ⟨0, Nat.zero_le _, rfl, hid hj0, hid (fun i h hij => by omega), HKK.out⟩
        case round =>
          rename World => wi
          obtain ⟨j, hj, rfl, HJi, HLo, hki⟩ := hrel
          have HKI := hid hki
          have hdl : (L.drop ii).length = q := by rw [List.length_drop]; have := HN.out; have := HQ.out; omega
          have HDL := hid hdl
          clear hki
          by_cases hjq : j < q
          · have hjd : j < (L.drop ii).length := by omega
            have hij : ii + j < n := by have := HQ.out; omega
            have hpc := part_cells (HB3.out.own HK4.out) HN.out hij
            have hget : (L.drop ii)[j] = L[ii + j]'(by have := HN.out; omega) := List.getElem_drop
            have kc : ∀ o v, w3.cell? ⟨ib, o, none⟩ = some v → wi.cell? ⟨ib, o, none⟩ = some v := fun o v h => (World.cell?_of_block (HKI.out.block ib (cell_lt h) hF3)).trans h
            obtain ⟨c0, c1, c2⟩ := hpc
            have c0 := kc _ _ c0
            have c1 := kc _ _ c1
            have c2 := kc _ _ c2
            rw [← hget] at c0 c1 c2
            have hgh : wi.cell? ⟨gh, 0, none⟩ = some (.int .i64 hi) := by
              have h1 := HB3.out.cell HHI.out
              exact (World.cell?_of_block (HKI.out.block gh (cell_lt h1) hF1)).trans h1
            have hgh1 : ∀ o, (wi.alloc o).cell? ⟨gh, 0, none⟩ = some (.int .i64 hi) := fun o => ((Bw.refl wi).alloc o).cell hgh
            have htk : (L.drop ii).take (j + 1) = (L.drop ii).take j ++ [(L.drop ii)[j]] := List.take_succ_eq_append_getElem hjd
            have HTK := hid htk
            have HLO2 := hid (show ((((L.drop ii)[j]).lo : Int) < hi) → ∀ i (h : i < (L.drop ii).length), i < j + 1 → (((L.drop ii)[i]).lo : Int) < hi from fun h i h2 h3 => by
              rcases Nat.lt_or_ge i j with h4 | h4
              · exact HLo.out i h2 h4
              · obtain rfl : i = j := by omega
                exact h)
            have HTW := hid (show ¬ ((((L.drop ii)[j]).lo : Int) < hi) → (L.drop ii).take j = overL L lo hi from fun h => by
              unfold overL
              rw [HI0.out]
              exact (take_while HLo.out (fun _ => h)).symm)
            have e3 : (ii + j) * 3 = ii * 3 + j * 3 := by omega
            rw [e3] at c0 c1 c2
            generalize (L.drop ii)[j] = p at *
            have hj1 : (j : Int) < q := by omega
            have HJ2 := hid (HJJ.out _ _ (wi.alloc (.cells #[.int .i64 p.lo, .int .i64 p.hi, .int .i64 p.x] 83)) HJi.out ((Bw.refl wi).alloc _))
            have HKI2 := hid (HKI.out.alloc (.cells #[.int .i64 p.lo, .int .i64 p.hi, .int .i64 p.x] 83))
            clear hget htk e3 kc hjd hdl hgh
            by_cases hlt : (p.lo : Int) < hi
            · have hge : ¬ hi ≤ (p.lo : Int) := by omega
              obtain ⟨fn, tmps, assign, body, hy, hR2⟩ := HY.out _ p _ HJ2.out (by rw [List.length_take]; omega)
              unfold partV at hy
              gi_wp2
              refine hR2.mono ?_
              rintro e W5 (⟨rfl, hJ5, hk5⟩ | ⟨rfl, hJx5⟩)
              · have HJ5 := hid hJ5
                have HK5 := hid hk5
                have HLO3 := hid (HLO2.out hlt)
                clear hJ5 hk5 hy
                gi_wp2
                exact ⟨⟨j + 1, by omega, by go_num, hid (by rw [HTK.out]; exact HJ5.out), HLO3, HKI2.out.trans HK5.out⟩, by simp [intOf]; omega⟩
              · clear hy
                gi_wp2
                refine bodyPost_ret (results_none rfl _ _ _) rfl ?_
                exact ⟨⟨_, rfl⟩, .inr ⟨_, hJx5⟩⟩
            · have hge : hi ≤ (p.lo : Int) := by omega
              have HT2 := hid (HTW.out hlt)
              gi_wp2
              refine ⟨fun _ h => (by cases h), ?_⟩
              gi_wp2
              refine bodyPost_ret (results_none rfl _ _ _) rfl ?_
              exact ⟨⟨_, rfl⟩, .inl ⟨_, HT2.out, HJ2.out⟩⟩
          · obtain rfl : j = q := by omega
            have hall : (L.drop ii).take j = overL L lo hi := by
              unfold overL
              rw [HI0.out]
              exact (take_while HLo.out (fun h => by omega)).symm
            have HALL := hid (show J (overL L lo hi) wi by rw [← hall]; exact HJi.out)
            clear hall hdl
            gi_wp2
            exact ⟨⟨1, 0, Nat.le_refl _, by first | rfl | go_num, by first | rfl | go_num, hid (fun h => by omega), hid (fun _ => HALL.out), HKI.out⟩, by simp [intOf]⟩
      · obtain rfl : bb = 1 := by omega
        gi_wp2
        go_end0
        first | exact ⟨⟨_, rfl⟩, .inl (HB.out trivial)⟩ | exact ⟨⟨_, rfl⟩, .inl (HB.out rfl)⟩ | exact ⟨⟨_, rfl⟩, .inl ⟨_, rfl, HB.out trivial⟩⟩
  · have e1 : seaB L lo = 1 := (if_neg hf).trans (if_neg (by have := HN.out; omega))
    have e2 : seaI L lo = 0 := if_neg hf
    have hov : overL L lo hi = [] := by
      unfold overL
      rw [List.drop_eq_nil_of_le (by omega)]
      rfl
    have HJ3 := hid (show J (overL L lo hi) w3 by rw [hov]; exact HJ.out _ HB3.out)
    rw [e1, e2]
    have e0 : ((0 : Nat) : Int) = 0 := rfl
    have e1' : ((1 : Nat) : Int) = 1 := rfl
    rw [e0, e1']
    clear e0 e1' e1 e2 hov hfl hf
    go_wp2
    go_loopw [6, 7] (fun b i wr => b = .int .i64 1 ∧ i = .int .i64 0 ∧ wr = w3) (fun _ _ _ => 0)
    case atStart => exact ⟨rfl, rfl, rfl⟩
    case round =>
      obtain ⟨rfl, rfl, rfl⟩ := hrel
      go_wp2
      go_end0
      first | exact ⟨⟨_, rfl⟩, .inl ⟨_, rfl, HJ3.out⟩⟩ | exact ⟨⟨_, rfl⟩, .inl HJ3.out⟩
end Go.Proofs.Ytemgdnloabefjaa

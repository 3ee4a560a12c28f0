/- A table in memory; add (contract of the method). -/
import Derived.Test.YtcacnidlfjglbaaHufS
import Derived.Test.YtcacnidlfjglbaaOwnB
import Derived.BigRegion
import Derived.Lib.RabinKarpLaws
import Derived.Laws.DeepNot64
namespace Go.Proofs.Ytcacnidlfjglbaa
open Go.RowKit Go.Conc
set_option linter.unusedVariables false
/-- A table's rows, laid from B on. -/
def TabAt (B : Nat) (w : World) (tb : Nat) (P : List Path) (lf : Path → Option Nat) : Prop :=
  ∃ v, Has w tb 54 #[v] ∧ w.ownsRow B 64 2 v P.length (rowCells P lf)
theorem rowInfo : (Try.prog.info? 64).map (fun i => (i.zero, i.size, i.bytes)) = some (some (.agg #[.int .i64 0, .int .i64 0]), 2, 16) := by kernel_rfl
theorem bit_i64 (x i : Nat) (hx : x < 4611686018427387904) : bits .and .i64 (((x : Nat) : Int) / 2 ^ i) 1 = ((x / 2 ^ i % 2 : Nat) : Int) := by
  have hd : x / 2 ^ i ≤ x := Nat.div_le_self _ _
  have e : ((x : Nat) : Int) / 2 ^ i = ((x / 2 ^ i : Nat) : Int) := by simp
  rw [e]
  exact and_one _ (by omega)
theorem half_of (c n L : Nat) (h : L < n) : c / 2 ^ (n - L) = c / 2 ^ (n - 1 - L) / 2 := by
  rw [Nat.div_div_eq_div_mul, ← Nat.pow_succ, show (n - 1 - L).succ = n - L by omega]
/-- Its rows, and those along the way to a code. -/
def WayIn (P P0 : List Path) (n c : Nat) : Prop := ∀ p, p ∈ P ↔ p ∈ P0 ∨ (p.1 < n ∧ p.2 = c / 2 ^ (n - p.1))
theorem way_step (c n L : Nat) (p : Path) : (p.1 ≤ L + 1 ∧ p.2 = c / 2 ^ (n - p.1)) ↔ (p.1 ≤ L ∧ p.2 = c / 2 ^ (n - p.1)) ∨ p = (L + 1, c / 2 ^ (n - (L + 1))) := by
  constructor
  · rintro ⟨h1, h2⟩
    by_cases e : p.1 = L + 1
    · right; rw [e] at h2; exact Prod.ext e h2
    · left; exact ⟨by omega, h2⟩
  · rintro (⟨h1, h2⟩ | h)
    · exact ⟨by omega, h2⟩
    · rw [h]; exact ⟨Nat.le_refl _, rfl⟩
theorem way_old {c n L : Nat} {P P0 : List Path} (h : ∀ p, p ∈ P ↔ p ∈ P0 ∨ (p.1 ≤ L ∧ p.2 = c / 2 ^ (n - p.1))) (hq : (L + 1, c / 2 ^ (n - (L + 1))) ∈ P) (p : Path) : p ∈ P ↔ p ∈ P0 ∨ (p.1 ≤ L + 1 ∧ p.2 = c / 2 ^ (n - p.1)) := by
  rw [way_step]
  constructor
  · intro hp
    rcases (h p).1 hp with h1 | h1
    · exact .inl h1
    · exact .inr (.inl h1)
  · rintro (h1 | h1 | h1)
    · exact (h p).2 (.inl h1)
    · exact (h p).2 (.inr h1)
    · rw [h1]; exact hq
theorem way_new {c n L : Nat} {P P0 : List Path} (h : ∀ p, p ∈ P ↔ p ∈ P0 ∨ (p.1 ≤ L ∧ p.2 = c / 2 ^ (n - p.1))) (p : Path) : p ∈ P ++ [(L + 1, c / 2 ^ (n - (L + 1)))] ↔ p ∈ P0 ∨ (p.1 ≤ L + 1 ∧ p.2 = c / 2 ^ (n - p.1)) := by
  rw [way_step, List.mem_append, List.mem_singleton, h p, or_assoc]
theorem not_i64 (x : Nat) (hx : x < 1000000) : bits .xor .i64 (-1) (x : Int) = -((x : Int) + 1) := by
  rw [i64_not x (by omega)]
  omega
set_option maxRecDepth 100000 in
set_option maxHeartbeats 8000000 in
theorem add_any (B tb sym c n : Nat) (P0 : List Path) (lf : Path → Option Nat) (hT : TreeOk P0 lf) (h15 : n ≤ 15) (h0 : 0 < n) (hc : c < 2 ^ n) (hsym : sym < 1000) (hP : P0.length ≤ 100000)
    (hway : ∀ M, 0 < M → M < n → lf (M, c / 2 ^ (n - M)) = none) (w : World) (hB : B ≤ tb) (h : TabAt B w tb P0 lf) :
    Calls Try.prog 22 #[.pointer (some ⟨tb, 0, none⟩), .int .i64 sym, .int .i64 c, .int .i64 n] w fun e w' => e = .returned (.tuple #[]) ∧ ∃ P, TreeOk P (lfPut lf (n, c) sym) ∧ WayIn P P0 n c ∧ P.length ≤ P0.length + n ∧ TabAt B w' tb P (lfPut lf (n, c) sym) ∧ Below B w w' := by
  obtain ⟨i0, hinf, hz0, hz1, hz2⟩ := info_parts rowInfo
  obtain ⟨v, hh, ho⟩ := h
  have htb := hh.lt
  have hc0 : c / 2 ^ n = 0 := Nat.div_eq_of_lt hc
  have hce : ∀ p : Path, (p.1 ≤ 0 ∧ p.2 = c / 2 ^ (n - p.1)) ↔ p = (0, 0) := fun p => by
    constructor
    · rintro ⟨h1, h2⟩
      have e : p.1 = 0 := by omega
      rw [e, Nat.sub_zero, hc0] at h2
      exact Prod.ext e h2
    · rintro rfl
      exact ⟨Nat.le_refl _, by rw [Nat.sub_zero, hc0]⟩
  have HC15 := hid (show c < 4611686018427387904 from Nat.lt_of_lt_of_le hc (Nat.le_trans (Nat.pow_le_pow_right (by decide) h15) (by decide)))
  by_cases hne : 0 < P0.length
  · obtain ⟨rb, cap, rfl⟩ := own_some ho hne
    have hl0 : ((P0.length : Int) == 0) = false := by
      have : ¬ (P0.length : Int) = 0 := by omega
      simpa using this
    have HTab := hid (⟨_, hh, ho⟩ : TabAt B w tb P0 lf)
    have HB := hid (Below.refl B w)
    have hr0 : (0, 0) ∈ P0 := by
      have e := hT.root P0[0] (List.getElem?_eq_getElem hne)
      rw [← e]; exact List.getElem_mem hne
    have HM := hid (fun p : Path => (⟨fun h => .inl h, fun h => h.elim id fun h => by rw [(hce p).1 h]; exact hr0⟩ : p ∈ P0 ↔ p ∈ P0 ∨ (p.1 ≤ 0 ∧ p.2 = c / 2 ^ (n - p.1))))
    have HR := hid hr0
    have HT := hid hT
    have HL0 := hid (show P0.length ≤ P0.length + 0 + 1 by omega)
    have HI0 := hid (show P0.idxOf (0, 0) = 0 by
      have e := hT.root P0[0] (List.getElem?_eq_getElem hne)
      have := hT.nd.idxOf_getElem 0 hne
      rw [e] at this
      exact this)
    have HW := hid hway
    have HC := hid hc0
    have cc : w.cell? ⟨tb, 0, none⟩ = some (.slice (some ⟨rb, 0, none⟩) P0.length cap) := hh.cell 0
    clear hT hh ho hway hce hr0 hc0
    go_enter Try.func22, Try.ntmps22
    go_wp2_with fail
    clear cc hl0
    go_loopw [8, 9] (fun at_ i wr => ∃ (L : Nat) (P : List Path), L < n ∧ i = .int .i64 ((n - 1 - L : Nat) : Int) ∧ at_ = .int .i64 (P.idxOf (L, c / 2 ^ (n - L)) : Nat) ∧ (L, c / 2 ^ (n - L)) ∈ P ∧ TreeOk P lf ∧ (∀ p, p ∈ P ↔ p ∈ P0 ∨ (p.1 ≤ L ∧ p.2 = c / 2 ^ (n - p.1))) ∧ P.length ≤ P0.length + L + 1 ∧ TabAt B wr tb P lf ∧ Below B w wr) (fun _ i _ => (intOf i).toNat)
    case atStart => exact ⟨0, P0, h0, by rw [show n - 1 - 0 = n - 1 by omega, show ((n - 1 : Nat) : Int) = (n : Int) - 1 by omega], by rw [Nat.sub_zero, HC.out, HI0.out]; rfl, by rw [Nat.sub_zero, HC.out]; exact HR.out, HT.out, HM.out, HL0.out, HTab.out, HB.out⟩
    case round =>
      clear HT HM HR HTab HB HI0 HL0
      obtain ⟨L, P, hL, rfl, rfl, hmem, hT, hM, hlen, hTab, hBe⟩ := hrel
      have hBz := hBe.size
      obtain ⟨v, hh, ho⟩ := hTab
      obtain ⟨rb, cap, rfl⟩ := own_some ho (List.length_pos_of_mem hmem)
      have hrt : rb ≠ tb := fun e => own_ne_has ho hh (by decide) (by rw [e]; rfl)
      have hcap := ownp_cap ho
      obtain ⟨u, hu⟩ : ∃ u, c / 2 ^ (n - L) = u := ⟨_, rfl⟩
      obtain ⟨i, hi⟩ : ∃ i, n - 1 - L = i := ⟨_, rfl⟩
      obtain ⟨b, hb⟩ : ∃ b, c / 2 ^ i % 2 = b := ⟨_, rfl⟩
      have hb2 : b < 2 := by omega
      have hub : c / 2 ^ i = 2 * u + b := by
        have := half_of c n L hL
        rw [hi, hu] at this
        omega
      rw [hu] at hmem
      rw [hu, hi]
      obtain ⟨hat, hatE⟩ := idx_at hmem
      obtain ⟨ix, hix⟩ : ∃ ix, P.idxOf (L, u) = ix := ⟨_, rfl⟩
      obtain ⟨len, hPl⟩ : ∃ len, P.length = len := ⟨_, rfl⟩
      have hcell := ownp_cell ho (rowCells_get P lf (P.idxOf (L, u)) b hat hb2)
      rw [hatE, show 2 * P.idxOf (L, u) + b = P.idxOf (L, u) * 2 + b by omega] at hcell
      simp only at hcell
      rw [hix] at hat hcell
      rw [hPl] at hat hlen hcap
      rw [hix]
      have hbi := bit_i64 c i HC15.out
      rw [hb] at hbi
      have cc : wr.cell? ⟨tb, 0, none⟩ = some (.slice (some ⟨rb, 0, none⟩) len cap) := by rw [← hPl]; exact hh.cell 0
      by_cases hlt : L + 1 < n
      · have hi0 : 0 < i := by omega
        have hi15 : i < 15 := by omega
        have hlq : lf (L + 1, 2 * u + b) = none := by
          have := HW.out (L + 1) (by omega) hlt
          rwa [show n - (L + 1) = i by omega, hub] at this
        by_cases hq : (L + 1, 2 * u + b) ∈ P
        · rw [chl_row hlq hq] at hcell
          have hpos := idx_pos hT hq (by simp)
          have HX := hid (show n - 1 - (L + 1) = i - 1 by omega)
          have HU := hid (show c / 2 ^ (n - (L + 1)) = 2 * u + b by rw [show n - (L + 1) = i by omega]; exact hub)
          have HK := hid (⟨hq, hT, hM, hPl, ⟨_, hh, ho⟩, hBe⟩ : (L + 1, 2 * u + b) ∈ P ∧ TreeOk P lf ∧ (∀ p, p ∈ P ↔ p ∈ P0 ∨ (p.1 ≤ L ∧ p.2 = c / 2 ^ (n - p.1))) ∧ P.length = len ∧ TabAt B wr tb P lf ∧ Below B w wr)
          have hb2i : (b : Int) < 2 := by omega
          have hati : (ix : Int) < len := by omega
          clear hq hT hM hPl hh ho hBe hu hub hb hi hix hmem hatE
          generalize hiq : P.idxOf (L + 1, 2 * u + b) = iq at *
          have HIQ := hid hiq
          clear hiq
          go_wp2
          go_roundw
          case rel => exact ⟨L + 1, P, hlt, congrArg (Value.int .i64) (by rw [HX.out]; omega), by rw [HU.out, HIQ.out], by rw [HU.out]; exact HK.out.1, HK.out.2.1, way_old HK.out.2.2.1 (by rw [HU.out]; exact HK.out.1), by rw [HK.out.2.2.2.1]; omega, HK.out.2.2.2.2.1, HK.out.2.2.2.2.2⟩
          case measure => simp [intOf]; omega
        · rw [chl_none hlq hq] at hcell
          have hati : (ix : Int) < len := by omega
          have hb2i : (b : Int) < 2 := by omega
          have f1 := ownp_frozen ho (ix * 2 + b)
          have HKm := hid hmem
          have HKi := hid hix
          have HUB := hid hub
          have HI := hid hi
          have HK := hid (⟨hq, hT, hM, hPl, hh, ho, hBe⟩ : ¬ (L + 1, 2 * u + b) ∈ P ∧ TreeOk P lf ∧ (∀ p, p ∈ P ↔ p ∈ P0 ∨ (p.1 ≤ L ∧ p.2 = c / 2 ^ (n - p.1))) ∧ P.length = len ∧ Has wr tb 54 #[Value.slice (some ⟨rb, 0, none⟩) P.length cap] ∧ wr.ownsRow B 64 2 (Value.slice (some ⟨rb, 0, none⟩) P.length cap) P.length (rowCells P lf) ∧ Below B w wr)
          clear hq hT hM hPl hh ho hBe hu hub hb hi hix hmem hatE
          go_wp2_with fail
          go_region
          have HH2 := hid ((HK.out.2.2.2.2.1.far (p := ⟨rb, ix * 2 + b, none⟩) (show tb ≠ rb from fun e => hrt e.symm) (.int .i64 len)).drew)
          have HO2 : Hid ((wr.setCell ⟨rb, ix * 2 + b, none⟩ (.int .i64 len)).drew.ownsRow B 64 2 (Value.slice (some ⟨rb, 0, none⟩) P.length cap) P.length ((rowCells P lf).set (ix * 2 + b) (.int .i64 len))) := hid ((Bw.drewN (Bw.refl _) 1).own (ownp_set HK.out.2.2.2.2.2.1 (ix * 2 + b) (.int .i64 len)))
          have HB2 : Hid (Below B w (wr.setCell ⟨rb, ix * 2 + b, none⟩ (.int .i64 len)).drew) := hid (below_drewN (Below.setCell HK.out.2.2.2.2.2.2 (p := ⟨rb, ix * 2 + b, none⟩) (own_ge HK.out.2.2.2.2.2.1 (b := rb) rfl) (.int .i64 len)) 1)
          rw [HK.out.2.2.2.1] at HO2 HH2
          generalize (wr.setCell ⟨rb, ix * 2 + b, none⟩ (.int .i64 len)).drew = W2 at *
          have c2 := HH2.out.cell 0
          have HG := hid (tree_grow HK.out.2.1 L u b hb2 (HKm.out) HK.out.1 hlq)
          have HXJ := hid (show ((rowCells P lf).set (ix * 2 + b) (.int .i64 (len : Int)) ++ [.int .i64 0, .int .i64 0])[ix * 2 + b]? = some (.int .i64 (len : Int)) from by rw [List.getElem?_append_left (by rw [List.length_set, rowCells_len, HK.out.2.2.2.1]; omega), List.getElem?_set_self (by rw [rowCells_len, HK.out.2.2.2.1]; omega)])
          have hati5 : (ix : Int) < len + 1 := by omega
          have hB2 : B ≤ W2.heap.size := by have := HB2.out.size; omega
          go_wp2_with (at_builtin; refine wpList_append_own_at _ rfl (.tmp 64) (.tmp 66) 52 rfl B 64 i0 (.agg #[.int .i64 0, .int .i64 0]) 2 16 Try.underlying52 hinf hz0 hz1 hz2 rfl (by decide) (.slice (some ⟨rb, 0, none⟩) len cap) len ((rowCells P lf).set (ix * 2 + b) (.int .i64 len)) rfl (HO2.out.alloc _) ⟨W2.heap.size, 0, none⟩ 1 1 [.int .i64 0, .int .i64 0] rfl rfl (own_two _ _ _ _) (by intro u hu; simp at hu; subst hu; rfl) (by unfold maxLen; omega) (by omega) (by simp only [World.size_alloc]; omega) ?_; intro v' w5 hown5 hgrow5 _ _; obtain ⟨rb5, cap5, rfl⟩ := own_some hown5 (by omega); have HO5 := hid hown5; have HG5 := hid hgrow5; have h5 := has_grown (HH2.out.alloc _) hgrow5 (own_ne_has HO2.out HH2.out (by decide)); have H5 := hid h5; have c5 : w5.cell? ⟨tb, 0, none⟩ = some (.slice (some ⟨rb, 0, none⟩) len cap) := h5.cell 0; have f5 := h5.frozen 0; have hne5 : rb5 ≠ tb := fun e => own_ne_has hown5 h5 (by decide) (by rw [e]; rfl); have HF5 := hid (own_far hown5 (p := ⟨tb, 0, none⟩) (fun e => hne5 (by injection e)) (.slice (some ⟨rb5, 0, none⟩) (len + 1) cap5)); have y5 := ownp_cell HF5.out HXJ.out; have hcap5 := ownp_cap hown5; clear hown5 hgrow5 h5)
          go_roundw
          case rel =>
            have HX := hid (show n - 1 - (L + 1) = i - 1 by have := HI.out; omega)
            have HU := hid (show c / 2 ^ (n - (L + 1)) = 2 * u + b by rw [show n - (L + 1) = i by have := HI.out; omega]; exact HUB.out)
            have hlenP : (P ++ [(L + 1, 2 * u + b)]).length = len + 1 := by rw [List.length_append, HK.out.2.2.2.1]; rfl
            refine ⟨L + 1, P ++ [(L + 1, 2 * u + b)], hlt, congrArg (Value.int .i64) (by rw [HX.out]; omega), ?_, ?_, tree_grow_ok HK.out.2.1 L u b hb2 HKm.out HK.out.1, ?_, by rw [hlenP]; omega, ⟨_, by simpa using H5.out.put 0 (.slice (some ⟨rb5, 0, none⟩) (len + 1) cap5), ?_⟩, Below.setCell (Below.trans (Below.alloc HB2.out hB2 _) (own_grownJ HO2.out HG5.out (by simp only [World.size_alloc]; omega))) hB _⟩
            · rw [HU.out, List.idxOf_append, if_neg HK.out.1, HK.out.2.2.2.1]; simp
            · rw [HU.out]; simp
            · rw [← HU.out]; exact way_new HK.out.2.2.1
            · have hg := HG.out
              rw [HKi.out, HK.out.2.2.2.1, show 2 * ix + b = ix * 2 + b by omega] at hg
              rw [hlenP, ← hg]
              exact HF5.out
          case measure => simp [intOf]; omega
      · obtain rfl : n = L + 1 := by omega
        obtain rfl : i = 0 := by omega
        have hb2i : (b : Int) < 2 := by omega
        have hati : (ix : Int) < len := by omega
        have f1 := ownp_frozen ho (ix * 2 + b)
        have hbe : bits .and .i64 (c : Int) 1 = (b : Int) := by
          have := hbi
          simpa using this
        have hnot := not_i64 sym (by omega)
        have hcu : c = 2 * u + b := by simpa using hub
        have HKt := hid (tree_leaf hT L u b hb2 hmem sym)
        have HKo := hid (tree_leaf_ok hT L (2 * u + b) (by rw [show (2 * u + b) / 2 = u by omega]; exact hmem) sym)
        have HK := hid (⟨hT, hM, hPl, hh, ho, hBe⟩ : TreeOk P lf ∧ (∀ p, p ∈ P ↔ p ∈ P0 ∨ (p.1 ≤ L ∧ p.2 = c / 2 ^ (L + 1 - p.1))) ∧ P.length = len ∧ Has wr tb 54 #[Value.slice (some ⟨rb, 0, none⟩) P.length cap] ∧ wr.ownsRow B 64 2 (Value.slice (some ⟨rb, 0, none⟩) P.length cap) P.length (rowCells P lf) ∧ Below B w wr)
        have HIX := hid hix
        have HCU := hid hcu
        clear hT hM hPl hh ho hBe hu hub hb hmem hatE hbi hix hcu
        go_wp2
        go_returns
        refine ⟨rfl, P, ?_, fun p => (HK.out.2.1 p).trans ?_, by rw [HK.out.2.2.1]; first | omega | (have hz : ([] : List Path).length = 0 := rfl; omega), ⟨_, HK.out.2.2.2.1.far (p := ⟨rb, ix * 2 + b, none⟩) (show tb ≠ rb from fun e => hrt e.symm) _, ?_⟩, Below.setCell HK.out.2.2.2.2.2 (p := ⟨rb, ix * 2 + b, none⟩) (own_ge HK.out.2.2.2.2.1 (b := rb) rfl) _⟩
        · rw [HCU.out]; exact HKo.out
        · have e : p.1 ≤ L ↔ p.1 < L + 1 := by omega
          rw [e]
        · have hs := ownp_set HK.out.2.2.2.2.1 (ix * 2 + b) (.int .i64 (-((sym : Int) + 1)))
          have hg := HKt.out
          rw [HIX.out, show 2 * ix + b = ix * 2 + b by omega] at hg
          rw [hg] at hs
          rw [HCU.out]
          exact hs
  · obtain rfl : P0 = [] := by
      rcases P0 with _ | ⟨x, r⟩
      · rfl
      · simp at hne
    rcases ho.2 with ⟨rfl, _⟩ | ⟨g', cap', cur, rfl, hg1, hg2, hg3, hg4, hg5, hg6⟩
    all_goals
      have hT0 : TreeOk [(0, 0)] lf := ⟨by simp, fun p hp => by simpa using hp.symm, fun L v hp => by simp at hp, fun L v i hp => absurd (hT.lup _ _ _ hp) (by simp)⟩
      have hl1 : ∀ v, lf (1, v) = none := fun v => by
        cases hx : lf (1, v) with
        | none => rfl
        | some i => exact absurd (hT.lup 0 v i hx) (by simp)
      have hR0 : rowCells [(0, 0)] lf = [.int .i64 0, .int .i64 0] := by
        have a0 : chl [(0, 0)] lf (1, 0) = 0 := chl_none (hl1 0) (by simp)
        have a1 : chl [(0, 0)] lf (1, 1) = 0 := chl_none (hl1 1) (by simp)
        simp only [rowCells, rowOf, List.flatMap_cons, List.flatMap_nil, List.append_nil]
        simp only [Nat.zero_add, Nat.mul_zero]
        rw [a0, a1]
      have HM := hid (fun p : Path => (⟨fun h => .inr ((hce p).2 (by simpa using h)), fun h => h.elim (fun h => by simp at h) fun h => by rw [(hce p).1 h]; simp⟩ : p ∈ [(0, 0)] ↔ p ∈ ([] : List Path) ∨ (p.1 ≤ 0 ∧ p.2 = c / 2 ^ (n - p.1))))
      have HT := hid hT0
      have HR0 := hid hR0
      have HW := hid hway
      have HC := hid hc0
      have HHH := hid hh
      have HOO := hid ho
      have cc := hh.cell 0
      have ff := hh.frozen 0
      have HWB : B ≤ w.heap.size := by omega
      clear hT hh ho hway hce hc0 hl1 hT0 hR0
      go_enter Try.func22, Try.ntmps22
      go_wp2_with (at_builtin; refine wpList_append_own_at _ rfl (.tmp 21) (.tmp 23) 52 rfl B 64 i0 (.agg #[.int .i64 0, .int .i64 0]) 2 16 Try.underlying52 hinf hz0 hz1 hz2 rfl (by decide) _ 0 [] rfl (HOO.out.alloc _) ⟨w.heap.size, 0, none⟩ 1 1 [.int .i64 0, .int .i64 0] rfl rfl (own_two _ _ _ _) (by intro u hu; simp at hu; subst hu; rfl) (by unfold maxLen; omega) (by omega) (by simp only [World.size_alloc]; omega) ?_; intro v' w5 hown5 hgrow5 _ _; obtain ⟨rb5, cap5, rfl⟩ := own_some hown5 (by omega); have HO5 := hid hown5; have HG5 := hid hgrow5; have h5 := has_grown (HHH.out.alloc _) hgrow5 (own_ne_has HOO.out HHH.out (by decide)); have H5 := hid h5; have c5 := h5.cell 0; have f5 := h5.frozen 0; have hne5 : rb5 ≠ tb := fun e => own_ne_has hown5 h5 (by decide) (by rw [e]; rfl); have HF5 := hid (own_far hown5 (p := ⟨tb, 0, none⟩) (fun e => hne5 (by injection e)) (.slice (some ⟨rb5, 0, none⟩) 1 cap5)); clear hown5 hgrow5 h5)
      have HTab : Hid (TabAt B (w5.setCell ⟨tb, 0, none⟩ (.slice (some ⟨rb5, 0, none⟩) 1 cap5)) tb [(0, 0)] lf) := hid ⟨_, by simpa using H5.out.put 0 (.slice (some ⟨rb5, 0, none⟩) 1 cap5), by rw [HR0.out]; exact HF5.out⟩
      have HB : Hid (Below B w (w5.setCell ⟨tb, 0, none⟩ (.slice (some ⟨rb5, 0, none⟩) 1 cap5))) := hid (Below.setCell (Below.trans (Below.alloc (Below.refl B w) HWB _) (own_grownJ HOO.out HG5.out (by simp only [World.size_alloc]; omega))) hB _)
      have HI0 := hid (show List.idxOf ((0, 0) : Path) [(0, 0)] = 0 by simp)
      have HR := hid (show ((0, 0) : Path) ∈ [(0, 0)] by simp)
      have HL0 := hid (show [((0, 0) : Path)].length ≤ ([] : List Path).length + 0 + 1 by simp)
      clear H5 HF5 HO5 HG5 HHH HOO c5 f5 cc ff hne5 HR0
      generalize w5.setCell ⟨tb, 0, none⟩ (.slice (some ⟨rb5, 0, none⟩) 1 cap5) = W1 at *
      go_loopw [8, 9] (fun at_ i wr => ∃ (L : Nat) (P : List Path), L < n ∧ i = .int .i64 ((n - 1 - L : Nat) : Int) ∧ at_ = .int .i64 (P.idxOf (L, c / 2 ^ (n - L)) : Nat) ∧ (L, c / 2 ^ (n - L)) ∈ P ∧ TreeOk P lf ∧ (∀ p, p ∈ P ↔ p ∈ ([] : List Path) ∨ (p.1 ≤ L ∧ p.2 = c / 2 ^ (n - p.1))) ∧ P.length ≤ ([] : List Path).length + L + 1 ∧ TabAt B wr tb P lf ∧ Below B w wr) (fun _ i _ => (intOf i).toNat)
      case atStart => exact ⟨0, [(0, 0)], h0, by rw [show n - 1 - 0 = n - 1 by omega, show ((n - 1 : Nat) : Int) = (n : Int) - 1 by omega], by rw [Nat.sub_zero, HC.out, HI0.out]; rfl, by rw [Nat.sub_zero, HC.out]; exact HR.out, HT.out, HM.out, HL0.out, HTab.out, HB.out⟩
      case round =>
        clear HT HM HR HTab HB HI0 HL0
        obtain ⟨L, P, hL, rfl, rfl, hmem, hT, hM, hlen, hTab, hBe⟩ := hrel
        have hBz := hBe.size
        obtain ⟨v, hh, ho⟩ := hTab
        obtain ⟨rb, cap, rfl⟩ := own_some ho (List.length_pos_of_mem hmem)
        have hrt : rb ≠ tb := fun e => own_ne_has ho hh (by decide) (by rw [e]; rfl)
        have hcap := ownp_cap ho
        obtain ⟨u, hu⟩ : ∃ u, c / 2 ^ (n - L) = u := ⟨_, rfl⟩
        obtain ⟨i, hi⟩ : ∃ i, n - 1 - L = i := ⟨_, rfl⟩
        obtain ⟨b, hb⟩ : ∃ b, c / 2 ^ i % 2 = b := ⟨_, rfl⟩
        have hb2 : b < 2 := by omega
        have hub : c / 2 ^ i = 2 * u + b := by
          have := half_of c n L hL
          rw [hi, hu] at this
          omega
        rw [hu] at hmem
        rw [hu, hi]
        obtain ⟨hat, hatE⟩ := idx_at hmem
        obtain ⟨ix, hix⟩ : ∃ ix, P.idxOf (L, u) = ix := ⟨_, rfl⟩
        obtain ⟨len, hPl⟩ : ∃ len, P.length = len := ⟨_, rfl⟩
        have hcell := ownp_cell ho (rowCells_get P lf (P.idxOf (L, u)) b hat hb2)
        rw [hatE, show 2 * P.idxOf (L, u) + b = P.idxOf (L, u) * 2 + b by omega] at hcell
        simp only at hcell
        rw [hix] at hat hcell
        rw [hPl] at hat hlen hcap
        rw [hix]
        have hbi := bit_i64 c i HC15.out
        rw [hb] at hbi
        have cc : wr.cell? ⟨tb, 0, none⟩ = some (.slice (some ⟨rb, 0, none⟩) len cap) := by rw [← hPl]; exact hh.cell 0
        by_cases hlt : L + 1 < n
        · have hi0 : 0 < i := by omega
          have hi15 : i < 15 := by omega
          have hlq : lf (L + 1, 2 * u + b) = none := by
            have := HW.out (L + 1) (by omega) hlt
            rwa [show n - (L + 1) = i by omega, hub] at this
          by_cases hq : (L + 1, 2 * u + b) ∈ P
          · rw [chl_row hlq hq] at hcell
            have hpos := idx_pos hT hq (by simp)
            have HX := hid (show n - 1 - (L + 1) = i - 1 by omega)
            have HU := hid (show c / 2 ^ (n - (L + 1)) = 2 * u + b by rw [show n - (L + 1) = i by omega]; exact hub)
            have HK := hid (⟨hq, hT, hM, hPl, ⟨_, hh, ho⟩, hBe⟩ : (L + 1, 2 * u + b) ∈ P ∧ TreeOk P lf ∧ (∀ p, p ∈ P ↔ p ∈ ([] : List Path) ∨ (p.1 ≤ L ∧ p.2 = c / 2 ^ (n - p.1))) ∧ P.length = len ∧ TabAt B wr tb P lf ∧ Below B w wr)
            have hb2i : (b : Int) < 2 := by omega
            have hati : (ix : Int) < len := by omega
            clear hq hT hM hPl hh ho hBe hu hub hb hi hix hmem hatE
            generalize hiq : P.idxOf (L + 1, 2 * u + b) = iq at *
            have HIQ := hid hiq
            clear hiq
            go_wp2
            go_roundw
            case rel => exact ⟨L + 1, P, hlt, congrArg (Value.int .i64) (by rw [HX.out]; omega), by rw [HU.out, HIQ.out], by rw [HU.out]; exact HK.out.1, HK.out.2.1, way_old HK.out.2.2.1 (by rw [HU.out]; exact HK.out.1), by rw [HK.out.2.2.2.1]; omega, HK.out.2.2.2.2.1, HK.out.2.2.2.2.2⟩
            case measure => simp [intOf]; omega
          · rw [chl_none hlq hq] at hcell
            have hati : (ix : Int) < len := by omega
            have hb2i : (b : Int) < 2 := by omega
            have f1 := ownp_frozen ho (ix * 2 + b)
            have HKm := hid hmem
            have HKi := hid hix
            have HUB := hid hub
            have HI := hid hi
            have HK := hid (⟨hq, hT, hM, hPl, hh, ho, hBe⟩ : ¬ (L + 1, 2 * u + b) ∈ P ∧ TreeOk P lf ∧ (∀ p, p ∈ P ↔ p ∈ ([] : List Path) ∨ (p.1 ≤ L ∧ p.2 = c / 2 ^ (n - p.1))) ∧ P.length = len ∧ Has wr tb 54 #[Value.slice (some ⟨rb, 0, none⟩) P.length cap] ∧ wr.ownsRow B 64 2 (Value.slice (some ⟨rb, 0, none⟩) P.length cap) P.length (rowCells P lf) ∧ Below B w wr)
            clear hq hT hM hPl hh ho hBe hu hub hb hi hix hmem hatE
            go_wp2_with fail
            go_region
            have HH2 := hid ((HK.out.2.2.2.2.1.far (p := ⟨rb, ix * 2 + b, none⟩) (show tb ≠ rb from fun e => hrt e.symm) (.int .i64 len)).drew)
            have HO2 : Hid ((wr.setCell ⟨rb, ix * 2 + b, none⟩ (.int .i64 len)).drew.ownsRow B 64 2 (Value.slice (some ⟨rb, 0, none⟩) P.length cap) P.length ((rowCells P lf).set (ix * 2 + b) (.int .i64 len))) := hid ((Bw.drewN (Bw.refl _) 1).own (ownp_set HK.out.2.2.2.2.2.1 (ix * 2 + b) (.int .i64 len)))
            have HB2 : Hid (Below B w (wr.setCell ⟨rb, ix * 2 + b, none⟩ (.int .i64 len)).drew) := hid (below_drewN (Below.setCell HK.out.2.2.2.2.2.2 (p := ⟨rb, ix * 2 + b, none⟩) (own_ge HK.out.2.2.2.2.2.1 (b := rb) rfl) (.int .i64 len)) 1)
            rw [HK.out.2.2.2.1] at HO2 HH2
            generalize (wr.setCell ⟨rb, ix * 2 + b, none⟩ (.int .i64 len)).drew = W2 at *
            have c2 := HH2.out.cell 0
            have HG := hid (tree_grow HK.out.2.1 L u b hb2 (HKm.out) HK.out.1 hlq)
            have HXJ := hid (show ((rowCells P lf).set (ix * 2 + b) (.int .i64 (len : Int)) ++ [.int .i64 0, .int .i64 0])[ix * 2 + b]? = some (.int .i64 (len : Int)) from by rw [List.getElem?_append_left (by rw [List.length_set, rowCells_len, HK.out.2.2.2.1]; omega), List.getElem?_set_self (by rw [rowCells_len, HK.out.2.2.2.1]; omega)])
            have hati5 : (ix : Int) < len + 1 := by omega
            have hB2 : B ≤ W2.heap.size := by have := HB2.out.size; omega
            go_wp2_with (at_builtin; refine wpList_append_own_at _ rfl (.tmp 64) (.tmp 66) 52 rfl B 64 i0 (.agg #[.int .i64 0, .int .i64 0]) 2 16 Try.underlying52 hinf hz0 hz1 hz2 rfl (by decide) (.slice (some ⟨rb, 0, none⟩) len cap) len ((rowCells P lf).set (ix * 2 + b) (.int .i64 len)) rfl (HO2.out.alloc _) ⟨W2.heap.size, 0, none⟩ 1 1 [.int .i64 0, .int .i64 0] rfl rfl (own_two _ _ _ _) (by intro u hu; simp at hu; subst hu; rfl) (by unfold maxLen; omega) (by omega) (by simp only [World.size_alloc]; omega) ?_; intro v' w5 hown5 hgrow5 _ _; obtain ⟨rb5, cap5, rfl⟩ := own_some hown5 (by omega); have HO5 := hid hown5; have HG5 := hid hgrow5; have h5 := has_grown (HH2.out.alloc _) hgrow5 (own_ne_has HO2.out HH2.out (by decide)); have H5 := hid h5; have c5 : w5.cell? ⟨tb, 0, none⟩ = some (.slice (some ⟨rb, 0, none⟩) len cap) := h5.cell 0; have f5 := h5.frozen 0; have hne5 : rb5 ≠ tb := fun e => own_ne_has hown5 h5 (by decide) (by rw [e]; rfl); have HF5 := hid (own_far hown5 (p := ⟨tb, 0, none⟩) (fun e => hne5 (by injection e)) (.slice (some ⟨rb5, 0, none⟩) (len + 1) cap5)); have y5 := ownp_cell HF5.out HXJ.out; have hcap5 := ownp_cap hown5; clear hown5 hgrow5 h5)
            go_roundw
            case rel =>
              have HX := hid (show n - 1 - (L + 1) = i - 1 by have := HI.out; omega)
              have HU := hid (show c / 2 ^ (n - (L + 1)) = 2 * u + b by rw [show n - (L + 1) = i by have := HI.out; omega]; exact HUB.out)
              have hlenP : (P ++ [(L + 1, 2 * u + b)]).length = len + 1 := by rw [List.length_append, HK.out.2.2.2.1]; rfl
              refine ⟨L + 1, P ++ [(L + 1, 2 * u + b)], hlt, congrArg (Value.int .i64) (by rw [HX.out]; omega), ?_, ?_, tree_grow_ok HK.out.2.1 L u b hb2 HKm.out HK.out.1, ?_, by rw [hlenP]; omega, ⟨_, by simpa using H5.out.put 0 (.slice (some ⟨rb5, 0, none⟩) (len + 1) cap5), ?_⟩, Below.setCell (Below.trans (Below.alloc HB2.out hB2 _) (own_grownJ HO2.out HG5.out (by simp only [World.size_alloc]; omega))) hB _⟩
              · rw [HU.out, List.idxOf_append, if_neg HK.out.1, HK.out.2.2.2.1]; simp
              · rw [HU.out]; simp
              · rw [← HU.out]; exact way_new HK.out.2.2.1
              · have hg := HG.out
                rw [HKi.out, HK.out.2.2.2.1, show 2 * ix + b = ix * 2 + b by omega] at hg
                rw [hlenP, ← hg]
                exact HF5.out
            case measure => simp [intOf]; omega
        · obtain rfl : n = L + 1 := by omega
          obtain rfl : i = 0 := by omega
          have hb2i : (b : Int) < 2 := by omega
          have hati : (ix : Int) < len := by omega
          have f1 := ownp_frozen ho (ix * 2 + b)
          have hbe : bits .and .i64 (c : Int) 1 = (b : Int) := by
            have := hbi
            simpa using this
          have hnot := not_i64 sym (by omega)
          have hcu : c = 2 * u + b := by simpa using hub
          have HKt := hid (tree_leaf hT L u b hb2 hmem sym)
          have HKo := hid (tree_leaf_ok hT L (2 * u + b) (by rw [show (2 * u + b) / 2 = u by omega]; exact hmem) sym)
          have HK := hid (⟨hT, hM, hPl, hh, ho, hBe⟩ : TreeOk P lf ∧ (∀ p, p ∈ P ↔ p ∈ ([] : List Path) ∨ (p.1 ≤ L ∧ p.2 = c / 2 ^ (L + 1 - p.1))) ∧ P.length = len ∧ Has wr tb 54 #[Value.slice (some ⟨rb, 0, none⟩) P.length cap] ∧ wr.ownsRow B 64 2 (Value.slice (some ⟨rb, 0, none⟩) P.length cap) P.length (rowCells P lf) ∧ Below B w wr)
          have HIX := hid hix
          have HCU := hid hcu
          clear hT hM hPl hh ho hBe hu hub hb hmem hatE hbi hix hcu
          go_wp2
          go_returns
          refine ⟨rfl, P, ?_, fun p => (HK.out.2.1 p).trans ?_, by rw [HK.out.2.2.1]; first | omega | (have hz : ([] : List Path).length = 0 := rfl; omega), ⟨_, HK.out.2.2.2.1.far (p := ⟨rb, ix * 2 + b, none⟩) (show tb ≠ rb from fun e => hrt e.symm) _, ?_⟩, Below.setCell HK.out.2.2.2.2.2 (p := ⟨rb, ix * 2 + b, none⟩) (own_ge HK.out.2.2.2.2.1 (b := rb) rfl) _⟩
          · rw [HCU.out]; exact HKo.out
          · have e : p.1 ≤ L ↔ p.1 < L + 1 := by omega
            rw [e]
          · have hs := ownp_set HK.out.2.2.2.2.1 (ix * 2 + b) (.int .i64 (-((sym : Int) + 1)))
            have hg := HKt.out
            rw [HIX.out, show 2 * ix + b = ix * 2 + b by omega] at hg
            rw [hg] at hs
            rw [HCU.out]
            exact hs
end Go.Proofs.Ytcacnidlfjglbaa

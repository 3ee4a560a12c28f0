import Derived.Test.YtkmbgkcpohchhaaGreatDoorGStab
import Derived.Test.YtkmbgkcpohchhaaGreatDoorGHufZ
import Derived.Test.YtkmbgkcpohchhaaGreatDoorGHufG
import Derived.Test.YtkmbgkcpohchhaaGreatDoorGDefWH
import Derived.IntWalk
import Derived.Test.YtkmbgkcpohchhaaGreatDoorGBase
import Derived.ProofKit
import Derived.OpenShut
import Derived.SizedLaws
import Derived.Deep.Fields
namespace Go.Proofs.YtkmbgkcpohchhaaGreatDoor
open Go.RowKit Go.Conc
set_option linter.unusedVariables false
set_option maxRecDepth 100000 in
set_option maxHeartbeats 8000000 in
theorem lengths_t (a : Option Addr) (len cap most n : Nat) (l : List Int) (hll : Hid (l.length = len)) (h320 : len ≤ 320) (hok : ∀ x ∈ l, oftB x = true) (hm1 : 1 ≤ most) (hm15 : most ≤ 15) (hn : (lvM l len).length = n) (h1 : n ≤ 1)
    (w : World) (hst : ZsAt w a l) :
    Calls Tryz.prog 93 #[.slice a len cap, .int .i64 most] w fun e w' => ∃ rb : Nat, e = .returned (.tuple #[.slice (some ⟨rb, 0, none⟩) len len, .int .i64 0]) ∧ w.heap.size ≤ rb ∧ Has w' rb 3 (lenArr (flatS (lvM l len)) len) ∧ Bw w w' := by
  have HL := hid (leaves_ok a len cap l hll h320 hok w hst)
  have HN := hid hn
  have hpow : n ≤ 2 ^ most := Nat.le_trans h1 (Nat.one_le_two_pow)
  have hbd := lvM_bnd l hok len (by rw [hll.out]; exact Nat.le_refl _)
  have HBD := hid hbd
  have HSY := hid (lvM_sym l len)
  have hpi : (n : Int) ≤ 2 ^ most := by
    have : ((2 ^ most : Nat) : Int) = (2 : Int) ^ most := by simp
    omega
  have hwp : wrap64 ((2 : Int) ^ most) = 2 ^ most := by
    have h1 : ((2 ^ most : Nat) : Int) = (2 : Int) ^ most := by simp
    have h3 : 2 ^ most ≤ 2 ^ 15 := Nat.pow_le_pow_right (by decide) hm15
    have h4 := Nat.two_pow_pos most
    unfold wrap64; omega
  have hpj : (n : Int) ≤ wrap64 ((2 : Int) ^ most) := by rw [hwp]; exact hpi
  have hlni : (len : Int) ≤ 320 := by omega
  have d1 : decide ((most : Int) < 1) = false := decide_eq_false (by omega)
  have d2 : decide (15 < (most : Int)) = false := decide_eq_false (by omega)
  have d3 : decide (320 < (len : Int)) = false := decide_eq_false (by omega)
  have d4 : decide (wrap64 ((2 : Int) ^ most) < (n : Int)) = false := decide_eq_false (by omega)
  clear hwp
  have hmk := fun W => make_ints l len h320 W
  clear hok hst hbd hn
  go_enter Tryz.func93, Tryz.ntmps93
  go_wp2_with fail
  refine HL.out.mono ?_
  rintro e w1 ⟨v, N, rfl, hv, hM, hb⟩
  obtain ⟨nn, hnn⟩ : ∃ nn, N.length = nn := ⟨_, rfl⟩
  have hne : nn = n := by rw [← hnn, hM.1]; exact HN.out
  rw [hnn, hne] at hv
  obtain ⟨g0, c0, rfl⟩ := own_slice hv
  have HV := hid hv
  have HB1 := hid hb
  have HNN := hid (hnn.trans hne)
  have HM := hid hM
  clear hv hb hM hnn hne HL
  go_wp2_with fail
  have HLB := hid (Has.new w1 3 (cArr l len 0))
  have HBA := hid ((Bw.refl w1).alloc (.cells (cArr l len 0) 3))
  have hML : (lvM l len).length = n := HN.out
  have HX := hid (fun g (h : g = w1.heap.size) => Nat.le_of_eq h.symm)
  refine (lightest_t w.heap.size c0 n most g0 N (lvM l len) HNN h1 hm1 hm15 (· = w1.heap.size) _ (HV.out.alloc _) ((HM.out.fresh HX.out).bw HBA.out)).mono ?_
  rintro e w2 ⟨v2, N2, rfl, hv2, hM2, hb2⟩
  rw [World.size_alloc] at hv2
  obtain ⟨v2a, v2c, rfl⟩ := own_slice hv2
  have HSC := hid (fun m (hm : m ∈ lvM l len) => HSY.out m hm)
  have HBC := hid (fun m (hm : m ∈ lvM l len) => Nat.le_trans (HBD.out m hm).2 (show 2 ^ 0 ≤ 16384 by decide))
  have hCn : (lvM l len).length ≤ 1 := by rw [hML]; exact h1
  have HV2 := hid hv2
  have HM2 := hid hM2
  have HB2 := hid hb2
  have HLB2 := hid (hb2.has HLB.out)
  rw [lenArr_zero] at HLB2
  obtain ⟨n2, hn2⟩ : ∃ n2, N2.length = n2 := ⟨_, rfl⟩
  have hCl : (lvM l len).length = n2 := by rw [← hM2.1]; exact hn2
  have HCL := hid hCl
  have hn18 : n2 ≤ 16 := by rw [hCl] at hCn; omega
  have HN2 := hid hn2
  rw [hn2] at HV2 ⊢
  have hb2z := hb2.size
  rw [World.size_alloc] at hb2z
  clear hCn hv2 hM2 hb2 hML hCl hn2 HSY HM HV HBD HN
  obtain ⟨lb, hlb⟩ : ∃ lb, w1.heap.size = lb := ⟨_, rfl⟩
  have hw1b := HB1.out.size
  rw [hlb] at hb2z HV2 HLB2 HM2 hw1b ⊢
  have HLBE := hid hlb
  have HBW := hid (show Bw w w2 from HB1.out.trans (HBA.out.trans HB2.out))
  clear hlb HLB HBA HB2
  generalize hCe : lvM l len = C at *
  have HCE := hid hCe
  clear hCe
  have hw2z : lb < w2.heap.size := by omega
  go_wp2_with fail
  go_loopw [45] (fun i wr => ∃ (k : Nat), k ≤ n2 ∧ i = .int .i64 k ∧ Has wr lb 3 (lenArr (flatS (C.take k)) len) ∧ Keeps (· = lb) w2 wr) (fun i _ => n2 - (intOf i).toNat)
  case atStart => exact ⟨0, Nat.zero_le _, rfl, HLB2.out, Keeps.refl _ _⟩
  case round =>
    obtain ⟨k, hk, rfl, hlb, hkp⟩ := hrel
    have HLBK := hid hlb
    have HKP := hid hkp
    have hkz := hkp.size
    clear hlb
    by_cases hlt : k < n2
    · have hlti : (k : Int) < n2 := by omega
      obtain ⟨rb2, cp2, hv2⟩ := own_some HV2.out (by omega)
      obtain ⟨rfl, rfl⟩ : v2a = some ⟨rb2, 0, none⟩ ∧ v2c = cp2 := by simpa using hv2
      have hkN : k < N2.length := by rw [HN2.out]; exact hlt
      have hkC : k < C.length := by rw [HCL.out]; exact hlt
      have hr2 := own_ge HV2.out (b := rb2) rfl
      have hrl := own_lt HV2.out (b := rb2) rfl
      obtain ⟨hwt, g, cp, hsy, hsp, hsr, hsx⟩ := HM2.out.2 k hkN hkC
      have hnc := flat2_get ndE (fun _ => rfl) N2 k
      have x0 := (World.cell?_of_block (hkp.block rb2 hrl (show ¬ rb2 = lb by omega))).trans (ownp_cell HV2.out (hnc 0 hkN (by omega)))
      have x1 := (World.cell?_of_block (hkp.block rb2 hrl (show ¬ rb2 = lb by omega))).trans (ownp_cell HV2.out (hnc 1 hkN (by omega)))
      have HFS := hid (flatS_snoc C k hkC)
      have hyl : (C[k]).2.length ≤ 16384 := HBC.out C[k] (List.getElem_mem hkC)
      have hFl : (flatS (C.take k)).length ≤ k * 16384 := by
        have h1 := flatS_len 16384 (C.take k) (fun m hm => HBC.out m (List.mem_of_mem_take hm))
        rw [List.length_take] at h1
        have : min k C.length ≤ k := Nat.min_le_left _ _
        have h3 : min k C.length * 16384 ≤ k * 16384 := Nat.mul_le_mul_right _ this
        omega
      have hsl := HSC.out C[k] (List.getElem_mem hkC)
      generalize N2[k] = x at *
      generalize C[k] = y at *
      obtain ⟨xw, xs⟩ := x
      obtain ⟨yw, ys⟩ := y
      simp only at hwt hsy hsp hsr hsl HFS hyl
      subst hwt hsy
      have y0 : wr.cell? ⟨rb2, k * 2, none⟩ = some (.int .i64 (yw : Nat)) := by rw [Nat.mul_comm]; exact x0
      have y1 : wr.cell? ⟨rb2, k * 2 + 1, none⟩ = some (.slice (some ⟨g, 0, none⟩) ys.length cp) := by rw [Nat.mul_comm]; exact x1
      clear x0 x1
      have HSL := hid hsl
      have HSR := hid hsr
      have hgl := own_lt hsr (b := g) rfl
      have hsx2 : ¬ g = lb := hsx
      clear hnc hsl hsr hkN hkC hkp hsx hv2
      go_wp2_with fail
      have HL4 := hid (HLBK.out.alloc (.cells #[.int .i64 (yw : Nat), .slice (some ⟨g, 0, none⟩) ys.length cp] 179))
      have HK4 := hid (HKP.out.alloc (.cells #[.int .i64 (yw : Nat), .slice (some ⟨g, 0, none⟩) ys.length cp] 179))
      generalize flatS (C.take k) = F at *
      go_loopw [52] (fun i wq => ∃ (j : Nat), j ≤ ys.length ∧ i = .int .i64 j ∧ Has wq lb 3 (lenArr (F ++ ys.take j) len) ∧ Keeps (· = lb) w2 wq) (fun i _ => ys.length - (intOf i).toNat)
      case atStart => exact ⟨0, Nat.zero_le _, rfl, by rw [List.take_zero, List.append_nil]; exact HL4.out, HK4.out⟩
      case round =>
        obtain ⟨j, hj, rfl, hlb, hkp⟩ := hrel
        rename World => wq
        have HLBJ := hid hlb
        have HKJ := hid hkp
        by_cases hjl : j < ys.length
        · have hjli : (j : Int) < ys.length := by omega
          have z0 : (symCells ys)[j]? = some (.int .i64 (ys[j] : Nat)) := by simp [symCells, hjl]
          have y2 := (World.cell?_of_block (hkp.block g hgl hsx2)).trans (ownp_cell HSR.out z0)
          have hs := HSL.out ys[j] (List.getElem_mem hjl)
          have hts : ys.take (j + 1) = ys.take j ++ [ys[j]] := List.take_succ_eq_append_getElem hjl
          have HTS := hid hts
          clear z0 hts
          generalize ys[j] = sy at *
          have hsi : (sy : Int) < len := by omega
          have cl := (hlb.cell sy).trans (lenArr_get (F ++ ys.take j) len sy hs)
          have fl := hlb.frozen sy
          have hcb : (F ++ ys.take j).count sy ≤ (F ++ ys.take j).length := List.count_le_length
          rw [List.length_append, List.length_take] at hcb
          have hmin : min j ys.length ≤ j := Nat.min_le_left _ _
          have HP := hid (hlb.put sy (.int .i64 ((F ++ ys.take j).count sy + 1 : Nat)))
          rw [lenArr_put (F ++ ys.take j) len sy hs, List.append_assoc, ← HTS.out] at HP
          have HPK := hid (hkp.setCell (p := ⟨lb, sy, none⟩) (.inl rfl) (.int .i64 ((F ++ ys.take j).count sy + 1 : Nat)))
          have hbig : (F ++ ys.take j).count sy < 4611686018427387904 := big_cnt hcb hmin hFl hjl hyl hk hn18
          clear hcb hlb hkp hmin
          generalize (F ++ ys.take j).count sy = cn at *
          go_wp2
          refine ⟨⟨j + 1, by omega, by go_num, by simpa using HP.out, by simpa using HPK.out⟩, by simp [intOf]; omega⟩
        · obtain rfl : j = ys.length := by omega
          rw [List.take_length, ← HFS.out] at HLBJ
          go_wp2
          go_roundw
          case rel => exact ⟨k + 1, by omega, by go_num, HLBJ.out, HKJ.out⟩
          case measure => simp [intOf]; omega
    · obtain rfl : k = n2 := by omega
      have hT : C.take k = C := List.take_of_length_le (by rw [HCL.out]; exact Nat.le_refl _)
      rw [hT] at HLBK
      clear hT hkp
      go_wp2
      go_returns
      exact ⟨lb, rfl, hw1b, by rw [HCE.out]; exact HLBK.out, Below.trans HBW.out (HKP.out.below (by have := HBW.out.size; omega) (fun i hi => by omega))⟩
end Go.Proofs.YtkmbgkcpohchhaaGreatDoor
namespace Go.Proofs.YtkmbgkcpohchhaaGreatDoor
open Go.RowKit Go.Conc
set_option linter.unusedVariables false
def cntR (f : Nat → Nat) (r : Nat) : Nat → Nat
  | 0 => if r < f 0 then 1 else 0
  | k + 1 => cntR f r k + if r < f (k + 1) then 1 else 0
def worR (f : Nat → Nat) (r : Nat) : Nat → Nat
  | 0 => if r < f 0 then 1 else 0
  | k + 1 => worR f r k + if r < f (k + 1) then 2 ^ (k + 1) else 0
theorem cntR_le (f : Nat → Nat) (r : Nat) : ∀ k, cntR f r k ≤ k + 1
  | 0 => by unfold cntR; split <;> omega
  | k + 1 => by have := cntR_le f r k; unfold cntR; split <;> omega
theorem cntR_zero {f : Nat → Nat} {r : Nat} : ∀ k, (∀ j, j < k → f j ≤ f (j + 1)) → f k ≤ r → cntR f r k = 0 ∧ worR f r k = 0
  | 0, _, h => by unfold cntR worR; rw [if_neg (by omega)]; exact ⟨rfl, rfl⟩
  | k + 1, hm, h => by
    have h1 := hm k (by omega)
    have := cntR_zero k (fun j hj => hm j (by omega)) (show f k ≤ r by omega)
    unfold cntR worR
    rw [if_neg (by omega), if_neg (by omega), this.1, this.2]
    exact ⟨rfl, rfl⟩
theorem worR_eq {f : Nat → Nat} {r : Nat} : ∀ k, (∀ j, j < k → f j ≤ f (j + 1)) → worR f r k + 2 ^ (k + 1 - cntR f r k) = 2 ^ (k + 1)
  | 0, _ => by unfold worR cntR; split <;> decide
  | k + 1, hm => by
    have hm' : ∀ j, j < k → f j ≤ f (j + 1) := fun j hj => hm j (by omega)
    by_cases h : r < f (k + 1)
    · have ih := worR_eq (r := r) k hm'
      have hc := cntR_le f r k
      unfold worR cntR
      rw [if_pos h, if_pos h, show k + 1 + 1 - (cntR f r k + 1) = k + 1 - cntR f r k by omega, Nat.pow_succ 2 (k + 1)]
      omega
    · have := cntR_zero (f := f) (r := r) (k + 1) hm (by omega)
      rw [this.1, this.2]
      simp
def sumR (g : Nat → Nat) : Nat → Nat
  | 0 => 0
  | n + 1 => sumR g n + g n
theorem sumR_add (g h : Nat → Nat) : ∀ n, sumR (fun r => g r + h r) n = sumR g n + sumR h n
  | 0 => rfl
  | n + 1 => by unfold sumR; rw [sumR_add g h n]; omega
theorem sumR_const (c : Nat) : ∀ n, sumR (fun _ => c) n = n * c
  | 0 => by simp [sumR]
  | n + 1 => by unfold sumR; rw [sumR_const c n, Nat.succ_mul]
theorem sumR_cut (a c : Nat) : ∀ n, sumR (fun r => if r < a then c else 0) n = min a n * c
  | 0 => by simp [sumR]
  | n + 1 => by
    unfold sumR
    rw [sumR_cut a c n]
    by_cases h : n < a
    · rw [if_pos h, show min a n = n by omega, show min a (n + 1) = n + 1 by omega, Nat.succ_mul]
    · rw [if_neg h, show min a n = a by omega, show min a (n + 1) = a by omega, Nat.add_zero]
theorem sumR_congr {g h : Nat → Nat} : ∀ n, (∀ r, r < n → g r = h r) → sumR g n = sumR h n
  | 0, _ => rfl
  | n + 1, e => by unfold sumR; rw [sumR_congr n fun r hr => e r (by omega), e n (by omega)]
theorem sumR_ge {g : Nat → Nat} : ∀ n r, r < n → g r ≤ sumR g n
  | 0, r, h => by omega
  | n + 1, r, h => by
    unfold sumR
    by_cases e : r = n
    · subst e; omega
    · have := sumR_ge (g := g) n r (by omega); omega
theorem sumR_ge2 {g : Nat → Nat} : ∀ n r q, r < n → q < n → r ≠ q → g r + g q ≤ sumR g n
  | 0, r, q, h, _, _ => by omega
  | n + 1, r, q, h, h2, hne => by
    unfold sumR
    by_cases e : r = n
    · subst e; have := sumR_ge (g := g) r q (by omega); omega
    · by_cases e2 : q = n
      · subst e2; have := sumR_ge (g := g) q r (by omega); omega
      · have := sumR_ge2 (g := g) n r q (by omega) (by omega) hne; omega
theorem sumR_worth (f : Nat → Nat) (n : Nat) : ∀ k, (∀ j, j ≤ k → f j ≤ n) → sumR (fun r => worR f r k) n = sumW f k
  | 0, h => by
    have := sumR_cut (f 0) 1 n
    rw [show min (f 0) n = f 0 by have := h 0 (Nat.le_refl _); omega] at this
    simpa [worR, sumW] using this
  | k + 1, h => by
    have e : (fun r => worR f r (k + 1)) = fun r => worR f r k + (fun r => if r < f (k + 1) then 2 ^ (k + 1) else 0) r := rfl
    rw [e, sumR_add, sumR_worth f n k (fun j hj => h j (by omega)), sumR_cut, show min (f (k + 1)) n = f (k + 1) by have := h (k + 1) (Nat.le_refl _); omega]
    rfl
theorem kraft_levels {f : Nat → Nat} {n k : Nat} (hn : 1 ≤ n) (hm : ∀ j, j < k → f j ≤ f (j + 1)) (hf : ∀ j, j ≤ k → f j ≤ n) (hw : sumW f k = (2 * n - 2) * 2 ^ k) :
    sumR (fun r => 2 ^ (k + 1 - cntR f r k)) n = 2 ^ (k + 1) := by
  have h1 := sumR_add (fun r => worR f r k) (fun r => 2 ^ (k + 1 - cntR f r k)) n
  rw [sumR_congr (h := fun _ => 2 ^ (k + 1)) n (fun r _ => worR_eq k hm), sumR_const, sumR_worth f n k hf, hw] at h1
  have e1 : (2 * n - 2) * 2 ^ k = (n - 1) * 2 ^ (k + 1) := by
    rw [show 2 * n - 2 = (n - 1) * 2 by omega, Nat.mul_assoc, Nat.pow_succ, Nat.mul_comm 2]
  have e2 : n * 2 ^ (k + 1) = (n - 1) * 2 ^ (k + 1) + 2 ^ (k + 1) := by
    obtain ⟨d, rfl⟩ : ∃ d, n = d + 1 := ⟨n - 1, by omega⟩
    rw [Nat.succ_mul]; rfl
  omega
theorem levels_all {f : Nat → Nat} {n k : Nat} (hn : 2 ≤ n) (hm : ∀ j, j < k → f j ≤ f (j + 1)) (hf : ∀ j, j ≤ k → f j ≤ n) (hw : sumW f k = (2 * n - 2) * 2 ^ k) {r : Nat} (hr : r < n) : 1 ≤ cntR f r k := by
  rcases Nat.eq_zero_or_pos (cntR f r k) with h0 | h
  · exfalso
    have hs := kraft_levels (by omega) hm hf hw
    obtain ⟨q, hq, hne⟩ : ∃ q, q < n ∧ r ≠ q := by
      by_cases e : r = 0
      · exact ⟨1, by omega, by omega⟩
      · exact ⟨0, by omega, e⟩
    have := sumR_ge2 (g := fun r => 2 ^ (k + 1 - cntR f r k)) n r q hr hq hne
    simp only [hs, h0, Nat.sub_zero] at this
    have := Nat.two_pow_pos (k + 1 - cntR f q k)
    omega
  · exact h
theorem cntR_anti (f : Nat → Nat) {r q : Nat} (h : r ≤ q) : ∀ k, cntR f q k ≤ cntR f r k
  | 0 => by unfold cntR; split <;> split <;> omega
  | k + 1 => by have := cntR_anti f h k; unfold cntR; split <;> split <;> omega
theorem lvlM_long (M : List NdM) (h1 : 1 ≤ M.length) : ∀ k, M.length ≤ 2 ^ (k + 1) → 2 * M.length - 2 ≤ (lvlM M k).length := by
  have key : ∀ k e, M.length ≤ e * 2 ^ k → 2 * M.length ≤ (lvlM M k).length + e := by
    intro k
    induction k with
    | zero =>
      intro e he
      show 2 * M.length ≤ (sortL mLt M).length + e
      rw [sortL_len]; omega
    | succ k ih =>
      intro e he
      have := ih (2 * e) (by rw [Nat.pow_succ] at he; calc M.length ≤ e * (2 ^ k * 2) := he
        _ = 2 * e * 2 ^ k := by rw [Nat.mul_comm (2 ^ k) 2, ← Nat.mul_assoc, Nat.mul_comm e 2])
      show 2 * M.length ≤ (sortL mLt (M ++ prM (lvlM M k))).length + e
      rw [sortL_len, List.length_append, prM_len]
      omega
  intro k hk
  have := key k 2 (by rw [Nat.mul_comm, ← Nat.pow_succ]; exact hk)
  omega
end Go.Proofs.YtkmbgkcpohchhaaGreatDoor
namespace Go.Proofs.YtkmbgkcpohchhaaGreatDoor
open Go.RowKit Go.Conc
set_option linter.unusedVariables false
section
variable {α : Type}
theorem insRev_perm (lt : α → α → Bool) (x : α) : ∀ l : List α, (insRev lt x l).Perm (x :: l)
  | [] => .refl _
  | y :: l => by
    unfold insRev
    split
    · exact ((insRev_perm lt x l).cons y).trans (.swap x y l)
    · exact .refl _
theorem fold_perm (lt : α → α → Bool) : ∀ l r : List α, (l.foldl (fun r x => insRev lt x r) r).Perm (l ++ r)
  | [], r => .refl _
  | x :: l, r => (fold_perm lt l _).trans (((insRev_perm lt x r).append_left l).trans List.perm_middle)
theorem sortL_perm (lt : α → α → Bool) (l : List α) : (sortL lt l).Perm l := by
  have := fold_perm lt l []
  rw [List.append_nil] at this
  exact (List.reverse_perm _).trans this
end
def posB (l : List Int) (s : Nat) : Bool := decide (0 < l.getD s 0)
def leafOf (l : List Int) (s : Nat) : NdM := ((l.getD s 0).toNat, [s])
theorem lvM_eq (l : List Int) : ∀ k, lvM l k = ((List.range k).filter (posB l)).map (leafOf l)
  | 0 => rfl
  | k + 1 => by
    rw [List.range_succ, List.filter_append, List.map_append, ← lvM_eq l k]
    show (if 0 < l.getD k 0 then lvM l k ++ [((l.getD k 0).toNat, [k])] else lvM l k) = _
    by_cases h : 0 < l.getD k 0
    · have hp : posB l k = true := decide_eq_true h
      rw [if_pos h, List.filter_cons_of_pos hp]; rfl
    · have hp : ¬ posB l k = true := by unfold posB; simpa using h
      rw [if_neg h, List.filter_cons_of_neg hp]; simp
def syM (m : NdM) : Nat := m.2.headD 0
theorem flatS_map : ∀ C : List NdM, (∀ m ∈ C, m.2 = [syM m]) → flatS C = C.map syM
  | [], _ => rfl
  | c :: C, h => by
    rw [flatS_cons, flatS_map C fun m hm => h m (List.mem_cons_of_mem _ hm), h c (List.mem_cons_self ..)]
    rfl
def ranks (l : List Int) (len : Nat) : List Nat := (sortM (lvM l len)).map syM
theorem ranks_perm (l : List Int) (len : Nat) : (ranks l len).Perm ((List.range len).filter (posB l)) := by
  have h := (sortL_perm mLt (lvM l len)).map syM
  have e : (lvM l len).map syM = (List.range len).filter (posB l) := by
    rw [lvM_eq, List.map_map]
    have : syM ∘ leafOf l = id := rfl
    rw [this, List.map_id]
  rw [e] at h
  exact h
theorem ranks_nodup (l : List Int) (len : Nat) : (ranks l len).Nodup := (ranks_perm l len).nodup_iff.2 (List.nodup_range.filter _)
theorem sorted_leaf (l : List Int) (len : Nat) : ∀ m ∈ sortM (lvM l len), m.2 = [syM m] ∧ m.1 = (l.getD (syM m) 0).toNat := fun m hm => by
  have := (sortL_mem mLt _ m).1 hm
  rw [lvM_eq] at this
  obtain ⟨s, _, rfl⟩ := List.mem_map.1 this
  exact ⟨rfl, rfl⟩
theorem flat_ranks (l : List Int) (len a : Nat) : flatS ((sortM (lvM l len)).take a) = (ranks l len).take a := by
  rw [flatS_map _ fun m hm => (sorted_leaf l len m (List.mem_of_mem_take hm)).1]
  unfold ranks
  rw [List.map_take]
theorem count_take : ∀ (B : List Nat), B.Nodup → ∀ (r a : Nat) (hr : r < B.length), (B.take a).count B[r] = if r < a then 1 else 0
  | [], _, r, a, hr => by simp at hr
  | b :: B, h, r, 0, hr => by simp
  | b :: B, h, 0, a + 1, hr => by
    rw [List.nodup_cons] at h
    rw [List.take_succ_cons]
    show (b :: B.take a).count b = _
    rw [List.count_cons_self, List.count_eq_zero.2 fun hm => h.1 (List.mem_of_mem_take hm)]
    simp
  | b :: B, h, r + 1, a + 1, hr => by
    rw [List.nodup_cons] at h
    have hr2 : r < B.length := by simpa using hr
    have ih := count_take B h.2 r a hr2
    rw [List.take_succ_cons]
    show (b :: B.take a).count B[r] = _
    have hne : ¬ b = B[r] := fun e => h.1 (by rw [e]; exact List.getElem_mem hr2)
    rw [List.count_cons, ih]
    simp [hne]
theorem sumC_rank (l : List Int) (len : Nat) (f : Nat → Nat) (r : Nat) (hr : r < (ranks l len).length) : ∀ k, sumC (lvM l len) f (ranks l len)[r] k = cntR f r k
  | 0 => by
    unfold sumC cntR
    rw [flat_ranks, count_take _ (ranks_nodup l len) r _ hr]
  | k + 1 => by
    unfold sumC cntR
    rw [sumC_rank l len f r hr k, flat_ranks, count_take _ (ranks_nodup l len) r _ hr]
theorem sumC_off (l : List Int) (len : Nat) (f : Nat → Nat) (s : Nat) (hs : ¬ s ∈ ranks l len) : ∀ k, sumC (lvM l len) f s k = 0
  | 0 => by
    unfold sumC
    rw [flat_ranks]
    exact List.count_eq_zero.2 fun hm => hs (List.mem_of_mem_take hm)
  | k + 1 => by
    unfold sumC
    rw [sumC_off l len f s hs k, flat_ranks, List.count_eq_zero.2 fun hm => hs (List.mem_of_mem_take hm)]
theorem sum_filter {g : Nat → Nat} {p : Nat → Bool} : ∀ L : List Nat, (∀ x ∈ L, p x = false → g x = 0) → ((L.filter p).map g).sum = (L.map g).sum
  | [], _ => rfl
  | x :: L, h => by
    have ih := sum_filter L fun y hy => h y (List.mem_cons_of_mem _ hy)
    cases e : p x with
    | true => rw [List.filter_cons_of_pos e, List.map_cons, List.map_cons, List.sum_cons, List.sum_cons, ih]
    | false => rw [List.filter_cons_of_neg (by simp [e]), List.map_cons, List.sum_cons, ih, h x (List.mem_cons_self ..) e, Nat.zero_add]
theorem sum_sumR (g : Nat → Nat) (B : List Nat) : ∀ n, n ≤ B.length → ((B.take n).map g).sum = sumR (fun r => g (B.getD r 0)) n
  | 0, _ => by simp [sumR]
  | n + 1, h => by
    have hn : n < B.length := by omega
    rw [List.take_succ_eq_append_getElem hn, List.map_append, List.sum_append_nat, sum_sumR g B n (by omega)]
    show _ = sumR (fun r => g (B.getD r 0)) n + g (B.getD n 0)
    simp [List.getD, hn]
theorem sumR_mul (c : Nat) (g : Nat → Nat) : ∀ n, sumR (fun r => c * g r) n = c * sumR g n
  | 0 => rfl
  | n + 1 => by unfold sumR; rw [sumR_mul c g n, Nat.mul_add]
def wtL (n : Nat) : Nat := if 1 ≤ n ∧ n ≤ 15 then 2 ^ (15 - n) else 0
theorem kraft_cons (x : Nat) (L : List Int) : ∀ m, kraftS ((x : Int) :: L) m = kraftS L m + if 1 ≤ x ∧ x < m then 2 ^ (15 - x) else 0
  | 0 => by simp [kraftS]
  | m + 1 => by
    have ih := kraft_cons x L m
    have ht : tal ((x : Int) :: L) m = tal L m + if 1 ≤ x ∧ x = m then 1 else 0 := by
      unfold tal
      by_cases h0 : m = 0
      · rw [if_pos h0, if_pos h0, if_neg (by omega)]
      · rw [if_neg h0, if_neg h0]
        by_cases e : x = m
        · subst e; rw [List.count_cons_self, if_pos ⟨by omega, rfl⟩]
        · rw [List.count_cons_of_ne (by omega), if_neg (fun h => e h.2)]; rfl
    unfold kraftS
    rw [ih, ht]
    by_cases h1 : 1 ≤ x ∧ x < m
    · rw [if_pos h1, if_neg (by omega), if_pos (by omega), Nat.add_zero]; omega
    · by_cases h2 : 1 ≤ x ∧ x = m
      · obtain ⟨h3, rfl⟩ := h2
        rw [if_neg h1, if_pos ⟨h3, rfl⟩, if_pos (by omega), Nat.add_mul]; omega
      · rw [if_neg h1, if_neg h2, if_neg (by omega), Nat.add_zero, Nat.add_zero, Nat.add_zero]
theorem kraft_sum : ∀ S : List Nat, kraftS (S.map fun s => ((s : Nat) : Int)) 16 = (S.map wtL).sum
  | [] => by decide
  | x :: S => by
    rw [List.map_cons, kraft_cons, kraft_sum S, List.map_cons, List.sum_cons, Nat.add_comm]
    congr 1
    unfold wtL
    by_cases h : 1 ≤ x ∧ x < 16
    · rw [if_pos h, if_pos (by omega)]
    · rw [if_neg h, if_neg (by omega)]
def lenS (l : List Int) (len most : Nat) (s : Nat) : Nat := (flatS (chosen (lvM l len) most)).count s
theorem pkg {l : List Int} {len k : Nat} (h15 : k + 1 ≤ 15) (h2 : 2 ≤ (lvM l len).length) (hm : (lvM l len).length ≤ 2 ^ (k + 1)) :
    (∀ s, s < len → 0 < l.getD s 0 → 1 ≤ lenS l len (k + 1) s ∧ lenS l len (k + 1) s ≤ k + 1) ∧ (∀ s, ¬ (s < len ∧ 0 < l.getD s 0) → lenS l len (k + 1) s = 0) ∧
    (∀ s q, s < len → q < len → 0 < l.getD s 0 → l.getD s 0 < l.getD q 0 → lenS l len (k + 1) q ≤ lenS l len (k + 1) s) ∧ codeB ((List.range len).map fun s => ((lenS l len (k + 1) s : Nat) : Int)) = true := by
  have hpos : ∀ x ∈ lvM l len, 0 < x.1 := fun x hx => by
    rw [lvM_eq] at hx
    obtain ⟨s, hs, rfl⟩ := List.mem_map.1 hx
    have := of_decide_eq_true (List.mem_filter.1 hs).2
    show 0 < (l.getD s 0).toNat
    omega
  obtain ⟨f, hf⟩ := levels hpos k (2 * (lvM l len).length - 2) (lvlM_long _ (by omega) k hm)
  have hrl : (ranks l len).length = (lvM l len).length := by unfold ranks sortM; rw [List.length_map, sortL_len]
  generalize hn : (lvM l len).length = n at *
  have hS : ∀ s, lenS l len (k + 1) s = sumC (lvM l len) f s k := fun s => by
    have := hf.count s
    rw [← this]
    unfold lenS chosen
    rw [hn]; rfl
  have hmem : ∀ s, s ∈ ranks l len ↔ s < len ∧ 0 < l.getD s 0 := fun s => by
    rw [(ranks_perm l len).mem_iff, List.mem_filter, List.mem_range]
    unfold posB
    rw [decide_eq_true_eq]
  have hR : ∀ r (hr : r < (ranks l len).length), lenS l len (k + 1) (ranks l len)[r] = cntR f r k := fun r hr => (hS _).trans (sumC_rank l len f r hr k)
  have hf2 : ∀ j, j ≤ k → f j ≤ n := fun j hj => by rw [← hn]; exact hf.few j hj
  have hoff : ∀ s, ¬ (s < len ∧ 0 < l.getD s 0) → lenS l len (k + 1) s = 0 := fun s hs => (hS s).trans (sumC_off l len f s (fun h => hs ((hmem s).1 h)) k)
  refine ⟨fun s h1 h3 => ?_, hoff, fun s q hs hq h1 h3 => ?_, ?_⟩
  · obtain ⟨r, hr, rfl⟩ := List.getElem_of_mem ((hmem s).2 ⟨h1, h3⟩)
    rw [hR r hr]
    exact ⟨levels_all h2 hf.mono hf2 hf.worth (by omega), cntR_le f r k⟩
  · obtain ⟨r, hr, rfl⟩ := List.getElem_of_mem ((hmem s).2 ⟨hs, h1⟩)
    obtain ⟨t, ht, rfl⟩ := List.getElem_of_mem ((hmem q).2 ⟨hq, by omega⟩)
    rw [hR r hr, hR t ht]
    rcases Nat.lt_or_ge t r with hlt | hge
    · exfalso
      have hl : ∀ i (hi : i < (ranks l len).length), ∃ hj : i < (sortM (lvM l len)).length, (sortM (lvM l len))[i].1 = (l.getD (ranks l len)[i] 0).toNat := fun i hi => by
        have hj : i < (sortM (lvM l len)).length := by unfold ranks at hi; rwa [List.length_map] at hi
        refine ⟨hj, ?_⟩
        rw [(sorted_leaf l len _ (List.getElem_mem hj)).2]
        simp [ranks]
      obtain ⟨j1, e1⟩ := hl r hr
      obtain ⟨j2, e2⟩ := hl t ht
      have hasc := sortM_asc (lvM l len)
      unfold AscM at hasc
      have := List.pairwise_iff_getElem.1 hasc t r j2 j1 hlt
      omega
    · exact cntR_anti f hge k
  · unfold codeB
    have hks : kraftS ((List.range len).map fun s => ((lenS l len (k + 1) s : Nat) : Int)) 16 = 32768 := by
      have h1 := kraft_sum ((List.range len).map (lenS l len (k + 1)))
      rw [List.map_map, List.map_map] at h1
      refine Eq.trans h1 ?_
      rw [← sum_filter (p := posB l) (List.range len) (fun s _ hp => by
        have hp : ¬ 0 < l.getD s 0 := of_decide_eq_false hp
        show wtL (lenS l len (k + 1) s) = 0
        rw [hoff s (fun h => hp h.2)]; rfl), ← (((ranks_perm l len).map (wtL ∘ lenS l len (k + 1))).sum_nat)]
      have h3 := sum_sumR (wtL ∘ lenS l len (k + 1)) (ranks l len) _ (Nat.le_refl _)
      rw [List.take_length] at h3
      rw [h3, hrl]
      have h4 := kraft_levels (by omega) hf.mono hf2 hf.worth
      rw [sumR_congr (h := fun r => 2 ^ (15 - (k + 1)) * 2 ^ (k + 1 - cntR f r k)) n fun r hr => ?_, sumR_mul, h4, ← Nat.pow_add, show 15 - (k + 1) + (k + 1) = 15 by omega]
      have hr2 : r < (ranks l len).length := by omega
      have hc1 := levels_all h2 hf.mono hf2 hf.worth hr
      have hc2 := cntR_le f r k
      show wtL (lenS l len (k + 1) ((ranks l len).getD r 0)) = _
      rw [show (ranks l len).getD r 0 = (ranks l len)[r] by simp [List.getD, hr2], hR r hr2]
      unfold wtL
      rw [if_pos (by omega), ← Nat.pow_add, show 15 - (k + 1) + (k + 1 - cntR f r k) = 15 - cntR f r k by omega]
    rw [decide_eq_true hks]
    simp
end Go.Proofs.YtkmbgkcpohchhaaGreatDoor
namespace Go.Proofs.YtkmbgkcpohchhaaGreatDoor
open Go.RowKit Go.Conc
set_option linter.unusedVariables false
def manyF (l : List Int) (len most : Nat) (s : Nat) : Nat := if (lvM l len).length ≤ 1 then (flatS (lvM l len)).count s else lenS l len most s
theorem flat_lvM (l : List Int) (len : Nat) : flatS (lvM l len) = (List.range len).filter (posB l) := by
  rw [lvM_eq]
  induction (List.range len).filter (posB l) with
  | nil => rfl
  | cons x r ih =>
    have : flatS ((x :: r).map (leafOf l)) = (leafOf l x).2 ++ flatS (r.map (leafOf l)) := rfl
    rw [this, ih]
    rfl
theorem flat_cnt (l : List Int) (len s : Nat) : (flatS (lvM l len)).count s = if s < len ∧ 0 < l.getD s 0 then 1 else 0 := by
  rw [flat_lvM]
  have hnd : ((List.range len).filter (posB l)).Nodup := List.Pairwise.filter _ List.nodup_range
  by_cases h : s < len ∧ 0 < l.getD s 0
  · rw [if_pos h]
    exact List.Nodup.count hnd |>.trans (if_pos (List.mem_filter.2 ⟨List.mem_range.2 h.1, decide_eq_true h.2⟩))
  · rw [if_neg h]
    exact List.count_eq_zero.2 fun hm => h ⟨List.mem_range.1 (List.mem_filter.1 hm).1, of_decide_eq_true (List.mem_filter.1 hm).2⟩
theorem few_tal (l : List Int) (len j : Nat) : tal ((List.range len).map fun s => (((flatS (lvM l len)).count s : Nat) : Int)) j = if j = 1 then (lvM l len).length else 0 := by
  have hz : (lvM l len).length = ((List.range len).filter (posB l)).length := by rw [lvM_eq, List.length_map]
  unfold tal
  by_cases h0 : j = 0
  · subst h0; simp
  rw [if_neg h0, List.count_eq_countP, List.countP_map]
  by_cases h1 : j = 1
  · subst h1
    rw [if_pos rfl, hz, ← List.countP_eq_length_filter]
    apply List.countP_congr
    intro s hs
    have hs := List.mem_range.1 hs
    simp only [Function.comp, flat_cnt, posB]
    by_cases hp : 0 < l.getD s 0
    · rw [if_pos ⟨hs, hp⟩]; exact ⟨fun _ => decide_eq_true hp, fun _ => by simp⟩
    · rw [if_neg (fun h => hp h.2)]; exact ⟨fun h => by simp at h, fun h => absurd (of_decide_eq_true h) hp⟩
  · rw [if_neg h1]
    rw [List.countP_eq_zero]
    intro s hs
    simp only [Function.comp, flat_cnt]
    split <;> simp <;> omega
theorem many_ok {l : List Int} {len most : Nat} (hm1 : 1 ≤ most) (hm : most ≤ 15) (hp : (lvM l len).length ≤ 2 ^ most) :
    (∀ s, s < len → 0 < l.getD s 0 → 1 ≤ manyF l len most s ∧ manyF l len most s ≤ most) ∧ (∀ s, ¬ (s < len ∧ 0 < l.getD s 0) → manyF l len most s = 0) ∧
    (∀ s q, s < len → q < len → 0 < l.getD s 0 → l.getD s 0 < l.getD q 0 → manyF l len most q ≤ manyF l len most s) ∧ codeB ((List.range len).map fun s => ((manyF l len most s : Nat) : Int)) = true := by
  by_cases h1 : (lvM l len).length ≤ 1
  · have e : ∀ s, manyF l len most s = (flatS (lvM l len)).count s := fun s => if_pos h1
    simp only [e]
    refine ⟨fun s hs hp => ?_, fun s hs => ?_, fun s q hs hq hp hlt => ?_, ?_⟩
    · rw [flat_cnt, if_pos ⟨hs, hp⟩]; omega
    · rw [flat_cnt, if_neg hs]
    · rw [flat_cnt l len s, if_pos ⟨hs, hp⟩, flat_cnt]; split <;> omega
    · unfold codeB
      rcases (show (lvM l len).length = 0 ∨ (lvM l len).length = 1 by omega) with h | h
      · have hz : zeroB ((List.range len).map fun s => (((flatS (lvM l len)).count s : Nat) : Int)) = true := by
          unfold zeroB
          simp only [few_tal, h]
          decide
        rw [hz, Bool.true_or]
      · have hz : oneB ((List.range len).map fun s => (((flatS (lvM l len)).count s : Nat) : Int)) = true := by
          unfold oneB
          simp only [few_tal, h]
          decide
        rw [hz, Bool.true_or, Bool.or_true]
  · obtain ⟨k, rfl⟩ : ∃ k, most = k + 1 := ⟨most - 1, by omega⟩
    have e : ∀ s, manyF l len (k + 1) s = lenS l len (k + 1) s := fun s => if_neg h1
    simp only [e]
    exact pkg hm (by omega) hp
theorem many_check {l : List Int} {len most : Nat} (h320 : len ≤ 320) (hm1 : 1 ≤ most) (hm : most ≤ 15) (hp : (lvM l len).length ≤ 2 ^ most) : checkE ((List.range len).map fun s => ((manyF l len most s : Nat) : Int)) = 0 := by
  obtain ⟨h1, h2, h3, h4⟩ := many_ok hm1 hm hp
  have hle : ∀ s, manyF l len most s ≤ 15 := fun s => by
    by_cases h : s < len ∧ 0 < l.getD s 0
    · have := (h1 s h.1 h.2).2; omega
    · rw [h2 s h]; omega
  have hok : okLens ((List.range len).map fun s => ((manyF l len most s : Nat) : Int)) = true := by
    unfold okLens
    rw [Bool.and_eq_true]
    refine ⟨decide_eq_true (by simpa using h320), List.all_eq_true.2 fun x hx => ?_⟩
    obtain ⟨s, _, rfl⟩ := List.mem_map.1 hx
    have := hle s
    simp [lenB]; omega
  unfold checkE
  rw [hok, h4]
  rfl
end Go.Proofs.YtkmbgkcpohchhaaGreatDoor
namespace Go.Proofs.YtkmbgkcpohchhaaGreatDoor
open Go.RowKit Go.Conc
set_option linter.unusedVariables false
theorem lengths_any (a : Option Addr) (len cap most : Nat) (l : List Int) (hll : Hid (l.length = len)) (h320 : len ≤ 320) (hok : ∀ x ∈ l, oftB x = true) (hm1 : 1 ≤ most) (hm15 : most ≤ 15) (hp : (lvM l len).length ≤ 2 ^ most) (w : World) (hst : ZsAt w a l) :
    Calls Tryz.prog 93 #[.slice a len cap, .int .i64 most] w fun e w' => ∃ rb : Nat, e = .returned (.tuple #[.slice (some ⟨rb, 0, none⟩) len len, .int .i64 0]) ∧ w.heap.size ≤ rb ∧ Has w' rb 3 (((List.range len).map fun i => Value.int .i64 (manyF l len most i : Nat)).toArray) ∧ Bw w w' := by
  by_cases h1 : (lvM l len).length ≤ 1
  · have e : (fun i => Value.int .i64 (manyF l len most i : Nat)) = fun i => Value.int .i64 (((flatS (lvM l len)).count i : Nat) : Int) := by
      funext i; unfold manyF; rw [if_pos h1]
    rw [e]
    exact lengths_t a len cap most _ l hll h320 hok hm1 hm15 rfl h1 w hst
  · have e : (fun i => Value.int .i64 (manyF l len most i : Nat)) = fun i => Value.int .i64 (((flatS (chosen (lvM l len) most)).count i : Nat) : Int) := by
      funext i; unfold manyF lenS; rw [if_neg h1]
    rw [e]
    have hlen := lvM_len l len
    obtain ⟨k, rfl⟩ : ∃ k, most = k + 1 := ⟨most - 1, by omega⟩
    exact lengths_n a len cap (k + 1) _ l hll h320 hok hm1 hm15 rfl (by omega) (by omega) hp (lvlM_long _ (by omega) k hp) w hst
end Go.Proofs.YtkmbgkcpohchhaaGreatDoor
namespace Go.Proofs.YtkmbgkcpohchhaaGreatDoor
open Go.RowKit Go.Conc
set_option linter.unusedVariables false
def trimGo (f : Nat → Nat) (least : Nat) : Nat → Nat
  | 0 => 0
  | k + 1 => if least < k + 1 ∧ f k = 0 then trimGo f least k else k + 1
theorem trim_le (f : Nat → Nat) (least : Nat) : ∀ k, trimGo f least k ≤ k
  | 0 => Nat.le_refl _
  | k + 1 => by
    have := trim_le f least k
    rw [trimGo]
    split <;> omega
theorem trim_ge (f : Nat → Nat) (least : Nat) : ∀ k, least ≤ k → least ≤ trimGo f least k
  | 0, h => h
  | k + 1, h => by
    rw [trimGo]
    split
    · rename_i c
      exact trim_ge f least k (by omega)
    · exact h
theorem trim_zero (f : Nat → Nat) (least : Nat) : ∀ k i, trimGo f least k ≤ i → i < k → f i = 0
  | 0, i, _, h => by omega
  | k + 1, i, h1, h2 => by
    rw [trimGo] at h1
    split at h1
    · rename_i c
      by_cases e : i = k
      · rw [e]; exact c.2
      · exact trim_zero f least k i h1 (by omega)
    · omega
def natL (f : Nat → Nat) (k : Nat) : List Int := (List.range k).map fun i => ((f i : Nat) : Int)
theorem natL_len (f : Nat → Nat) (k : Nat) : (natL f k).length = k := by simp [natL]
theorem natL_get (f : Nat → Nat) (k i : Nat) (h : i < k) : (natL f k).getD i 0 = (f i : Nat) := by simp [natL, List.getD, h]
theorem natL_succ (f : Nat → Nat) (k : Nat) : natL f (k + 1) = natL f k ++ [((f k : Nat) : Int)] := by
  unfold natL
  rw [List.range_succ, List.map_append]
  rfl
theorem tal_zero (l : List Int) (n : Nat) : tal (l ++ [0]) n = tal l n := by
  have := tal_snoc l 0 n
  rw [if_neg (by omega)] at this
  exact this
theorem kraft_zero (l : List Int) : ∀ k, kraftS (l ++ [0]) k = kraftS l k
  | 0 => rfl
  | k + 1 => by rw [kraftS, kraft_zero l k, tal_zero, kraftS]
theorem code_zeroE (l : List Int) : codeB (l ++ [0]) = codeB l := by
  unfold codeB zeroB oneB
  simp only [tal_zero, kraft_zero]
theorem check_zero {l : List Int} (h : checkE (l ++ [0]) = 0) : checkE l = 0 := by
  unfold checkE at h ⊢
  have h1 : okLens (l ++ [0]) = true := by
    cases c : okLens (l ++ [0]) with
    | true => rfl
    | false => rw [c] at h; cases h
  rw [h1, if_pos rfl, code_zeroE] at h
  have h2 : okLens l = true := by
    unfold okLens at h1 ⊢
    simp only [List.length_append, List.length_singleton, List.all_append, Bool.and_eq_true, decide_eq_true_eq] at h1 ⊢
    exact ⟨by omega, h1.2.1⟩
  rw [h2, if_pos rfl]
  exact h
theorem check_trim (f : Nat → Nat) (least : Nat) : ∀ k, checkE (natL f k) = 0 → checkE (natL f (trimGo f least k)) = 0
  | 0, h => h
  | k + 1, h => by
    rw [trimGo]
    split
    · rename_i c
      rw [natL_succ, c.2] at h
      exact check_trim f least k (check_zero h)
    · exact h
def bestN (l : List Int) (len most least : Nat) : Nat := trimGo (manyF l len most) least len
def bestL (l : List Int) (len most least : Nat) : List Int := natL (manyF l len most) (bestN l len most least)
theorem best_check {l : List Int} {len most : Nat} (least : Nat) (h320 : len ≤ 320) (hm1 : 1 ≤ most) (hm : most ≤ 15) (hp : (lvM l len).length ≤ 2 ^ most) : checkE (bestL l len most least) = 0 := check_trim _ _ _ (many_check h320 hm1 hm hp)
theorem zs_many {w : World} {b n k : Nat} {t : TypeId} {f : Nat → Nat} (h : Has w b t (((List.range n).map fun i => Value.int .i64 (f i : Nat)).toArray)) (hk : k ≤ n) : ZsAt w (some ⟨b, 0, none⟩) (natL f k) := fun i hi => by
  have hn : i < k := by simpa [natL] using hi
  refine ⟨b, 0, rfl, h.lt, ?_⟩
  rw [Nat.zero_add, h.cell i]
  simp [natL, show i < n by omega]
def slN : Value → Nat
  | .slice _ n _ => n
  | _ => 0
set_option maxRecDepth 100000 in
set_option maxHeartbeats 2000000 in
theorem best_any (a : Option Addr) (len cap most least : Nat) (l : List Int) (hll : Hid (l.length = len)) (h320 : len ≤ 320) (hok : ∀ x ∈ l, oftB x = true) (hm1 : 1 ≤ most) (hm15 : most ≤ 15) (hp : (lvM l len).length ≤ 2 ^ most) (hle : least ≤ len) (w : World) (hst : ZsAt w a l) :
    Calls Tryz.prog 59 #[.slice a len cap, .int .i64 most, .int .i64 least] w fun e w' => ∃ rb : Nat, e = .returned (.slice (some ⟨rb, 0, none⟩) (bestN l len most least) len) ∧ w.heap.size ≤ rb ∧ rb < w'.heap.size ∧ ZsAt w' (some ⟨rb, 0, none⟩) (bestL l len most least) ∧ Bw w w' := by
  have HL := hid (lengths_any a len cap most l hll h320 hok hm1 hm15 hp w hst)
  have HBN := hid (show bestN l len most least = trimGo (manyF l len most) least len from rfl)
  have HBL := hid (show bestL l len most least = natL (manyF l len most) (bestN l len most least) from rfl)
  have HMO := hid (fun i => show manyF l len most i ≤ 15 from by
    by_cases c : i < len ∧ 0 < l.getD i 0
    · have := ((many_ok hm1 hm15 hp).1 i c.1 c.2).2
      omega
    · rw [(many_ok hm1 hm15 hp).2.1 i c]; exact Nat.zero_le _)
  generalize bestN l len most least = bn at *
  generalize bestL l len most least = bl at *
  generalize manyF l len most = f at *
  clear hst hp hok
  go_enter Tryz.func59, Tryz.ntmps59
  go_wp2_with fail
  refine HL.out.mono ?_
  rintro e w1 ⟨rb, rfl, hrb, hh, hb⟩
  have HH1 := hid hh
  have HB1 := hid hb
  clear hh hb HL
  go_wp2_with fail
  go_loopw [7] (fun v wr => ∃ k : Nat, k ≤ len ∧ v = .slice (some ⟨rb, 0, none⟩) k len ∧ Hid (trimGo f least k = bn) ∧ Hid (least ≤ k) ∧ wr = w1) (fun v _ => slN v)
  case atStart => exact ⟨len, Nat.le_refl _, rfl, hid HBN.out.symm, hid hle, rfl⟩
  case round =>
    obtain ⟨k, hk, rfl, HT, HK, rfl⟩ := hrel
    by_cases hlt : least < k
    · obtain ⟨q, rfl⟩ : ∃ q, k = q + 1 := ⟨k - 1, by omega⟩
      have c0 := HH1.out.cell q
      have hq : q < len := by omega
      rw [show (((List.range len).map fun i => Value.int .i64 (f i : Nat)).toArray)[q]? = some (.int .i64 (f q : Nat)) by simp [hq]] at c0
      have hgi : (least : Int) < ((q + 1 : Nat) : Int) := by omega
      have h15 := HMO.out q
      have HS := hid (show trimGo f least (q + 1) = if least < q + 1 ∧ f q = 0 then trimGo f least q else q + 1 from rfl)
      have e1 : ((q + 1 : Nat) : Int) - 1 = (q : Nat) := by omega
      by_cases hz : f q = 0
      · rw [if_pos ⟨hlt, hz⟩] at HS
        rw [hz] at c0
        go_wp2_with fail
        exact ⟨⟨q, by omega, rfl, hid (HS.out.symm.trans HT.out), hid (by omega), trivial⟩, by simp [slN]⟩
      · rw [if_neg (fun h => hz h.2)] at HS
        have hz2 : ((f q : Nat) : Int) ≠ 0 := by omega
        have hbn : q + 1 = bn := HS.out.symm.trans HT.out
        subst hbn
        have HZ := hid (zs_many HH1.out (k := q + 1) hk)
        rw [← HBL.out] at HZ
        go_wp2_with fail
        go_returns
        exact ⟨rb, rfl, hrb, HH1.out.lt, HZ.out, HB1.out⟩
    · have hk2 : k = bn := by
        have h1 := HT.out
        have h2 := HK.out
        cases k with
        | zero => exact h1
        | succ q => rw [trimGo, if_neg (fun h => hlt h.1)] at h1; exact h1
      subst hk2
      have hlti : ¬ (least : Int) < (k : Nat) := by omega
      have HZ := hid (zs_many HH1.out (k := k) hk)
      rw [← HBL.out] at HZ
      go_wp2_with fail
      go_returns
      exact ⟨rb, rfl, hrb, HH1.out.lt, HZ.out, HB1.out⟩
end Go.Proofs.YtkmbgkcpohchhaaGreatDoor
namespace Go.Proofs.YtkmbgkcpohchhaaGreatDoor
open Go.RowKit Go.Conc
set_option linter.unusedVariables false
def lb1 (b : Bool) : Nat := if b then 1 else 0
def blkB (last : Bool) (c : List UInt8) : List UInt8 :=
  [UInt8.ofNat (lb1 last), UInt8.ofNat c.length, UInt8.ofNat (c.length / 256), UInt8.ofNat (65535 - c.length), UInt8.ofNat ((65535 - c.length) / 256)] ++ c
theorem blkB_len (last : Bool) (c : List UInt8) : (blkB last c).length = 5 + c.length := by simp [blkB]; omega
theorem lb1_le (b : Bool) : lb1 b ≤ 1 := by cases b <;> decide
theorem leN_blkB (last : Bool) (c : List UInt8) (hc : c.length ≤ 65535) : leN (blkB last c) = lb1 last + 256 * c.length + 16777216 * (65535 - c.length) + 1099511627776 * leN c := by
  have hb := lb1_le last
  show (UInt8.ofNat (lb1 last)).toNat + 256 * ((UInt8.ofNat c.length).toNat + 256 * ((UInt8.ofNat (c.length / 256)).toNat + 256 * ((UInt8.ofNat (65535 - c.length)).toNat + 256 * ((UInt8.ofNat ((65535 - c.length) / 256)).toNat + 256 * leN c)))) = _
  simp only [UInt8.toNat_ofNat']
  omega
theorem lay_blk (bl c : List UInt8) (last : Bool) (hc : c.length ≤ 65535) :
    leN bl + lb1 last * 2 ^ (8 * bl.length) + c.length * 2 ^ (8 * bl.length + 8) + (65535 - c.length) * 2 ^ (8 * bl.length + 24) + leN c * 2 ^ (8 * bl.length + 40) = leN (bl ++ blkB last c) := by
  rw [leN_append, leN_blkB last c hc, Nat.pow_add, Nat.pow_add, Nat.pow_add]
  generalize 2 ^ (8 * bl.length) = P
  generalize 65535 - c.length = m
  rw [show (2 : Nat) ^ 8 = 256 by rfl, show (2 : Nat) ^ 24 = 16777216 by rfl, show (2 : Nat) ^ 40 = 1099511627776 by rfl]
  rw [Nat.mul_add, Nat.mul_add, Nat.mul_add, Nat.mul_comm (lb1 last) P, Nat.mul_left_comm c.length P 256, Nat.mul_left_comm m P 16777216, Nat.mul_left_comm (leN c) P 1099511627776, Nat.mul_comm c.length 256, Nat.mul_comm m 16777216, Nat.mul_comm (leN c) 1099511627776]
  omega
theorem strN_leN (l : List UInt8) : strN (leN l) l.length = ⟨l.toArray⟩ := by
  unfold strN
  congr 2
  apply List.ext_getElem
  · simp
  · intro i h1 h2
    have := leN_byte l i h2
    simp only [List.getElem_map, List.getElem_range]
    unfold hiN
    rw [this]
    simp
theorem WPost.step {F F1 : Nat → Prop} {g k' N' : Nat} {w w1 w2 : World} (hk : Keeps F w w1) (hF : ∀ i, F1 i → F i ∨ w.heap.size ≤ i) (h2 : WPost F1 g k' N' w1 w2) : WPost F g k' N' w w2 := by
  obtain ⟨F2, a2, hk2, hF2⟩ := h2
  have hs := hk.size
  refine ⟨F2, a2, ⟨hk2.os.trans hk.os, hk2.tape.trans hk.tape, hk2.output.trans hk.output, Nat.le_trans hs hk2.size, fun i hi hn => (hk2.block i (Nat.lt_of_lt_of_le hi hs) fun hf => ?_).trans (hk.block i hi hn)⟩, fun i hi => (hF2 i hi).elim (hF i) fun h => .inr (Nat.le_trans hs h)⟩
  rcases hF i hf with h | h
  · exact hn h
  · omega

set_option maxRecDepth 100000 in
set_option maxHeartbeats 2000000 in
theorem begin_0 (F : Nat → Prop) (g k N : Nat) (hk : k ≤ 1125899906842000) (kind : Nat) (hkd : kind < 4) (w : World) (h : WrF F w g k N) :
    Calls Tryz.prog 28 #[.pointer (some ⟨g, 0, none⟩), .int .u32 (kind : Nat), .bool false] w fun e w' => e = .returned (.tuple #[]) ∧ WPost F g (k + 3) (N + (0 + 2 * kind) * 2 ^ k) w w' := by
  have HP := hid (put_ok F g k N (by omega) 0 (by omega) 1 (by omega) (by omega) w h)
  have HQ := hid (fun F1 w1 h1 => put_ok F1 g (k + 1) (N + 0 * 2 ^ k) (by omega) kind (by omega) 2 (by omega) (by omega) w1 h1)
  have HE := hid (show N + 0 * 2 ^ k + kind * 2 ^ (k + 1) = N + (0 + 2 * kind) * 2 ^ k by rw [Nat.pow_succ, Nat.add_mul, Nat.mul_comm 2 kind, Nat.mul_assoc, Nat.mul_comm 2 (2 ^ k)]; omega)
  clear h
  go_enter Tryz.func28, Tryz.ntmps28
  go_wp2_with fail
  refine HP.out.mono ?_
  rintro e w1 ⟨rfl, F1, hw1, hk1, hf1⟩
  have HW1 := hid hw1
  have HK1 := hid hk1
  have HF1 := hid hf1
  clear hw1 hk1 hf1
  go_wp2_with fail
  refine (HQ.out _ _ HW1.out).mono ?_
  rintro e w2 ⟨rfl, h2⟩
  rw [HE.out] at h2
  have H2 := hid (WPost.step HK1.out HF1.out h2)
  clear h2
  go_wp2
  go_returns
  exact ⟨rfl, H2.out⟩
set_option maxRecDepth 100000 in
set_option maxHeartbeats 2000000 in
theorem begin_1 (F : Nat → Prop) (g k N : Nat) (hk : k ≤ 1125899906842000) (kind : Nat) (hkd : kind < 4) (w : World) (h : WrF F w g k N) :
    Calls Tryz.prog 28 #[.pointer (some ⟨g, 0, none⟩), .int .u32 (kind : Nat), .bool true] w fun e w' => e = .returned (.tuple #[]) ∧ WPost F g (k + 3) (N + (1 + 2 * kind) * 2 ^ k) w w' := by
  have HP := hid (put_ok F g k N (by omega) 1 (by omega) 1 (by omega) (by omega) w h)
  have HQ := hid (fun F1 w1 h1 => put_ok F1 g (k + 1) (N + 1 * 2 ^ k) (by omega) kind (by omega) 2 (by omega) (by omega) w1 h1)
  have HE := hid (show N + 1 * 2 ^ k + kind * 2 ^ (k + 1) = N + (1 + 2 * kind) * 2 ^ k by rw [Nat.pow_succ, Nat.add_mul, Nat.mul_comm 2 kind, Nat.mul_assoc, Nat.mul_comm 2 (2 ^ k)]; omega)
  clear h
  go_enter Tryz.func28, Tryz.ntmps28
  go_wp2_with fail
  refine HP.out.mono ?_
  rintro e w1 ⟨rfl, F1, hw1, hk1, hf1⟩
  have HW1 := hid hw1
  have HK1 := hid hk1
  have HF1 := hid hf1
  clear hw1 hk1 hf1
  go_wp2_with fail
  refine (HQ.out _ _ HW1.out).mono ?_
  rintro e w2 ⟨rfl, h2⟩
  rw [HE.out] at h2
  have H2 := hid (WPost.step HK1.out HF1.out h2)
  clear h2
  go_wp2
  go_returns
  exact ⟨rfl, H2.out⟩
theorem begin_any (F : Nat → Prop) (g k N : Nat) (hk : k ≤ 1125899906842000) (kind : Nat) (hkd : kind < 4) (last : Bool) (w : World) (h : WrF F w g k N) :
    Calls Tryz.prog 28 #[.pointer (some ⟨g, 0, none⟩), .int .u32 (kind : Nat), .bool last] w fun e w' => e = .returned (.tuple #[]) ∧ WPost F g (k + 3) (N + (lb1 last + 2 * kind) * 2 ^ k) w w' := by
  cases last
  · exact begin_0 F g k N hk kind hkd w h
  · exact begin_1 F g k N hk kind hkd w h
theorem xor_mask (n : Nat) (hn : n < 65536) : bits .xor .u32 (n : Int) 65535 = ((65535 - n : Nat) : Int) := by
  have h := u32_xor_nat n 65535 (by omega) (by omega)
  have e : n ^^^ 65535 = 65535 - n := by
    apply Nat.eq_of_testBit_eq
    intro i
    have h16 : (65535 : Nat) = 2 ^ 16 - 1 := rfl
    rw [Nat.testBit_xor, h16, Nat.testBit_two_pow_sub_one, show 2 ^ 16 - 1 - n = 2 ^ 16 - (n + 1) by omega, Nat.testBit_two_pow_sub_succ hn]
    by_cases hi : i < 16
    · simp [hi]
    · have : n.testBit i = false := Nat.testBit_lt_two_pow (Nat.lt_of_lt_of_le hn (show 65536 ≤ 2 ^ i from Nat.pow_le_pow_right (n := 2) (by decide) (by omega : 16 ≤ i)))
      simp [hi, this]
  rw [e] at h
  exact h
set_option maxRecDepth 100000 in
set_option maxHeartbeats 2000000 in
theorem stored_any (F : Nat → Prop) (g q N : Nat) (hk : q ≤ 140737488000) (s : ByteArray) (hs : s.size ≤ 65535) (last : Bool) (w : World) (h : WrF F w g (8 * q) N) :
    Calls Tryz.prog 54 #[.pointer (some ⟨g, 0, none⟩), .string s, .bool last] w fun e w' => e = .returned (.tuple #[]) ∧
      WPost F g (8 * (q + (5 + s.size))) (N + lb1 last * 2 ^ (8 * q) + s.size * 2 ^ (8 * q + 8) + (65535 - s.size) * 2 ^ (8 * q + 24) + leN s.data.toList * 2 ^ (8 * q + 40)) w w' := by
  have u1 : upK (8 * q + 3) = 8 * q + 8 := by unfold upK; omega
  have u2 : upK (8 * q + 8 + 16 + 16) = 8 * q + 40 := by unfold upK; omega
  have HB := hid (begin_any F g (8 * q) N (by omega) 0 (by omega) last w h)
  have HA := hid (fun F1 w1 h1 => walign_any F1 g (8 * q + 3) (N + (lb1 last + 2 * 0) * 2 ^ (8 * q)) (by omega) w1 h1)
  rw [u1] at HA
  have HP := hid (fun F1 w1 h1 => put_ok F1 g (8 * q + 8) (N + (lb1 last + 2 * 0) * 2 ^ (8 * q)) (by omega) s.size (by omega) 16 (by omega) (by omega) w1 h1)
  have HQ := hid (fun F1 w1 h1 => put_ok F1 g (8 * q + 8 + 16) (N + (lb1 last + 2 * 0) * 2 ^ (8 * q) + s.size * 2 ^ (8 * q + 8)) (by omega) (65535 - s.size) (by omega) 16 (by omega) (by omega) w1 h1)
  have HD := hid (fun F1 w1 h1 => wadd_any F1 g (8 * q + 8 + 16 + 16) (N + (lb1 last + 2 * 0) * 2 ^ (8 * q) + s.size * 2 ^ (8 * q + 8) + (65535 - s.size) * 2 ^ (8 * q + 8 + 16)) s (by omega) w1 h1)
  rw [u2] at HD
  have HE1 := hid (show 8 * q + 40 + 8 * s.size = 8 * (q + (5 + s.size)) by omega)
  have hxm := xor_mask s.size (by omega)
  clear h u1 u2
  go_enter Tryz.func54, Tryz.ntmps54
  go_wp2_with fail
  refine HB.out.mono ?_
  rintro e w1 ⟨rfl, F1, hw1, hk1, hf1⟩
  have HW1 := hid hw1
  have HK1 := hid hk1
  have HF1 := hid hf1
  clear hw1 hk1 hf1
  go_wp2_with fail
  refine (HA.out _ _ HW1.out).mono ?_
  rintro e w2 ⟨rfl, h2⟩
  obtain ⟨F2, hw2, hk2, hf2⟩ := WPost.step HK1.out HF1.out h2
  have HW2 := hid hw2
  have HK2 := hid hk2
  have HF2 := hid hf2
  clear h2 hw2 hk2 hf2
  go_wp2_with fail
  refine (HP.out _ _ HW2.out).mono ?_
  rintro e w3 ⟨rfl, h3⟩
  obtain ⟨F3, hw3, hk3, hf3⟩ := WPost.step HK2.out HF2.out h3
  have HW3 := hid hw3
  have HK3 := hid hk3
  have HF3 := hid hf3
  clear h3 hw3 hk3 hf3
  go_wp2_with fail
  refine (HQ.out _ _ HW3.out).mono ?_
  rintro e w4 ⟨rfl, h4⟩
  obtain ⟨F4, hw4, hk4, hf4⟩ := WPost.step HK3.out HF3.out h4
  have HW4 := hid hw4
  have HK4 := hid hk4
  have HF4 := hid hf4
  clear h4 hw4 hk4 hf4
  go_wp2_with fail
  refine (HD.out _ _ HW4.out).mono ?_
  rintro e w5 ⟨rfl, h5⟩
  have H5 := hid (WPost.step HK4.out HF4.out h5)
  clear h5
  go_wp2
  go_returns
  refine ⟨rfl, ?_⟩
  have := H5.out
  rw [HE1.out, Nat.mul_zero, Nat.add_zero, show 8 * q + 8 + 16 = 8 * q + 24 by omega] at this
  exact this
end Go.Proofs.YtkmbgkcpohchhaaGreatDoor
namespace Go.Proofs.YtkmbgkcpohchhaaGreatDoor
open Go.RowKit Go.ChangeShapes Go.WideShapes Go.ChangeAt Go.Deep
set_option linter.unusedVariables false
section
variable {H : Type} {enc : TypeId × Value → H} {P : Program} {w : World} {base : Nat} {spare : Nat → Bool} {held : Bool}
def FieldsAt (enc : TypeId × Value → H) (P : Program) (w : World) (base : Nat) (spare : Nat → Bool) (held : Bool) (fs : Array Field) (cs : List Value) (ds : List (DataW H)) : Prop :=
  ∀ (j : Nat) (f : Field), fs[j]? = some f → ∃ (u : Value) (y : DataW H × List MemPlace) (n : Nat), cs[j]? = some u ∧ ds[j]? = some y.1 ∧ DataW.trod enc P w base spare held n f.type [u] = some y

theorem FieldsAt.int {fs : Array Field} {cs : List Value} {ds : List (DataW H)} (h : FieldsAt enc P w base spare held fs cs ds) (j : Nat) {f : Field} {k : IntKind} (hj : fs[j]? = some f) (hu : P.underlying f.type = some (.int k)) :
    ∃ a : Int, cs[j]? = some (.int k a) ∧ ds[j]? = some (.lit (.int k a)) ∧ (Lit.int k a).wf = true := by
  obtain ⟨u, y, n, h1, h2, h3⟩ := h j f hj
  obtain ⟨a, e1, rfl, hw⟩ := DataW.trod_int hu h3
  simp only [List.cons.injEq, and_true] at e1
  subst e1
  exact ⟨a, h1, h2, hw⟩
theorem FieldsAt.bool {fs : Array Field} {cs : List Value} {ds : List (DataW H)} (h : FieldsAt enc P w base spare held fs cs ds) (j : Nat) {f : Field} (hj : fs[j]? = some f) (hu : P.underlying f.type = some .bool) :
    ∃ a : Bool, cs[j]? = some (.bool a) ∧ ds[j]? = some (.lit (.bool a)) := by
  obtain ⟨u, y, n, h1, h2, h3⟩ := h j f hj
  obtain ⟨a, e1, rfl⟩ := DataW.trod_bool hu h3
  simp only [List.cons.injEq, and_true] at e1
  subst e1
  exact ⟨a, h1, h2⟩
theorem FieldsAt.string {fs : Array Field} {cs : List Value} {ds : List (DataW H)} (h : FieldsAt enc P w base spare held fs cs ds) (j : Nat) {f : Field} (hj : fs[j]? = some f) (hu : P.underlying f.type = some .string) :
    ∃ s : ByteArray, cs[j]? = some (.string s) ∧ ds[j]? = some (.lit (.string s.data.toList)) := by
  obtain ⟨u, y, n, h1, h2, h3⟩ := h j f hj
  obtain ⟨s, e1, rfl, _⟩ := DataW.trod_string hu h3
  simp only [List.cons.injEq, and_true] at e1
  subst e1
  exact ⟨s, h1, h2⟩
end
theorem string_reach {H : Type} {P : Program} {ts : List TypeId} {ds0 ds : List (DataW H)} (hsz : (DataW.weightsEach P ts ds0).all (· ≤ reachBytes) = true) {j i : Nat} {t : TypeId} {fs : Array Field} {f : Field} {s : ByteArray}
    (ht : ts[j]? = some t) (hd : ds0[j]? = some (.agg ds)) (hu : P.underlying t = some (.struct fs)) (hf : fs[i]? = some f) (hs : ds[i]? = some (.lit (.string s.data.toList))) : s.size ≤ 140737488351232 := by
  have h1 : s.data.toList.length ∈ DataW.weights P t (.agg ds) := by
    simp only [DataW.weights, hu]
    exact DataW.weights_mem_each (t := f.type) (by simp [hf]) hs _ (by simp [DataW.weights])
  have h2 := List.all_eq_true.1 hsz _ (DataW.weights_mem_each ht hd _ h1)
  have h3 : s.data.toList.length ≤ reachBytes := by simpa using h2
  have h4 : s.size = s.data.toList.length := by simp
  have h5 : reachBytes = 140737488351232 := by decide
  omega
end Go.Proofs.YtkmbgkcpohchhaaGreatDoor

/- Lengths, at few symbols (contract of the function). -/
import Derived.Test.YtcacnidlfjglbaaHufLd
namespace Go.Proofs.Ytcacnidlfjglbaa
open Go.RowKit Go.Conc
set_option linter.unusedVariables false
def lenArr (F : List Nat) (len : Nat) : Array Value := ((List.range len).map fun i => Value.int .i64 (F.count i : Nat)).toArray
theorem lenArr_get (F : List Nat) (len i : Nat) (h : i < len) : (lenArr F len)[i]? = some (.int .i64 (F.count i : Nat)) := by simp [lenArr, h]
theorem lenArr_zero (l : List Int) (n : Nat) : cArr l n 0 = lenArr [] n := by
  unfold cArr lenArr
  congr 2
theorem lenArr_put (F : List Nat) (len s : Nat) (h : s < len) : (lenArr F len).setIfInBounds s (.int .i64 (F.count s + 1 : Nat)) = lenArr (F ++ [s]) len := by
  apply Array.ext_getElem?
  intro i
  have hsz : (lenArr F len).size = len := by simp [lenArr]
  rw [Array.getElem?_setIfInBounds, hsz]
  by_cases hi : i < len
  · rw [lenArr_get (F ++ [s]) len i hi, List.count_append]
    by_cases e : s = i
    · subst e; rw [if_pos rfl, if_pos h]; simp
    · rw [if_neg e, lenArr_get F len i hi]; simp [e]
  · rw [if_neg (by omega), Array.getElem?_eq_none (by rw [hsz]; omega), Array.getElem?_eq_none (by simp [lenArr]; omega)]
def SymLt (n : Nat) (M : List NdM) : Prop := ∀ m ∈ M, ∀ s ∈ m.2, s < n
theorem lvM_sym (l : List Int) : ∀ k, SymLt k (lvM l k)
  | 0 => fun m hm => by simp [lvM] at hm
  | k + 1 => fun m hm s hs => by
    unfold lvM at hm
    split at hm
    · rcases List.mem_append.1 hm with e | e
      · have := lvM_sym l k m e s hs; omega
      · simp only [List.mem_singleton] at e
        subst e
        simp at hs; omega
    · have := lvM_sym l k m hm s hs; omega
theorem prM_sym (n : Nat) : ∀ M : List NdM, SymLt n M → SymLt n (prM M)
  | [], _ => fun m hm => by simp [prM] at hm
  | [x], _ => fun m hm => by simp [prM] at hm
  | a :: b :: r, h => fun m hm s hs => by
    have hm2 : m = (a.1 + b.1, a.2 ++ b.2) ∨ m ∈ prM r := by simpa [prM] using hm
    rcases hm2 with rfl | hm
    · rcases List.mem_append.1 hs with e | e
      · exact h a (by simp) s e
      · exact h b (by simp) s e
    · exact prM_sym n r (fun x hx => h x (by simp [hx])) m hm s hs
theorem lvlM_sym {n : Nat} {M : List NdM} (h : SymLt n M) : ∀ k, SymLt n (lvlM M k)
  | 0 => fun m hm => h m ((sortL_mem mLt M m).1 hm)
  | k + 1 => fun m hm => by
    have := (sortL_mem mLt _ m).1 hm
    rcases List.mem_append.1 this with e | e
    · exact h m e
    · exact prM_sym n _ (lvlM_sym h k) m e
/-- The symbols of the nodes that are chosen. -/
def chosen (M : List NdM) (most : Nat) : List NdM := (lvlM M (most - 1)).take (2 * M.length - 2)
def flatS (C : List NdM) : List Nat := C.flatMap Prod.snd
theorem flatS_snoc (C : List NdM) (k : Nat) (h : k < C.length) : flatS (C.take (k + 1)) = flatS (C.take k) ++ C[k].2 := by
  rw [List.take_succ_eq_append_getElem h]
  unfold flatS
  rw [List.flatMap_append]
  simp only [List.flatMap_cons, List.flatMap_nil, List.append_nil]
theorem flatS_len (B : Nat) : ∀ C : List NdM, (∀ m ∈ C, m.2.length ≤ B) → (flatS C).length ≤ C.length * B
  | [], _ => by simp [flatS]
  | m :: C, h => by
    have h1 := flatS_len B C (fun x hx => h x (by simp [hx]))
    have h2 := h m (by simp)
    have e : flatS (m :: C) = m.2 ++ flatS C := rfl
    rw [e, List.length_append, List.length_cons, Nat.add_mul, Nat.one_mul]; omega
theorem big_cnt {c f m j y k n : Nat} (h1 : c ≤ f + m) (h2 : m ≤ j) (h3 : f ≤ k * 16384) (h4 : j < y) (h5 : y ≤ 16384) (h6 : k ≤ n) (h7 : n ≤ 16) : c < 4611686018427387904 := by omega
theorem lvM_bnd (l : List Int) (h : ∀ x ∈ l, oftB x = true) : ∀ k, k ≤ l.length → ∀ m ∈ lvM l k, Bnd 0 m
  | 0, _, m, hm => by simp [lvM] at hm
  | k + 1, hk, m, hm => by
    unfold lvM at hm
    split at hm
    · rcases List.mem_append.1 hm with e | e
      · exact lvM_bnd l h k (by omega) m e
      · simp only [List.mem_singleton] at e
        subst e
        have hx := of_decide_eq_true (h l[k] (List.getElem_mem hk))
        have hg : l.getD k 0 = l[k] := by simp [List.getD, show k < l.length from hk]
        unfold Bnd
        rw [hg]
        refine ⟨by simp only; omega, by simp⟩
    · exact lvM_bnd l h k (by omega) m hm
set_option maxRecDepth 100000 in
set_option maxHeartbeats 8000000 in
theorem lengths_few (a : Option Addr) (len cap most n : Nat) (l : List Int) (hll : Hid (l.length = len)) (h320 : len ≤ 320) (hok : ∀ x ∈ l, oftB x = true) (hm1 : 1 ≤ most) (hm15 : most ≤ 15) (hn : (lvM l len).length = n) (h2 : 2 ≤ n) (h9 : n ≤ 9) (hpow : n ≤ 2 ^ most)
    (hfit : 2 * n - 2 ≤ (lvlM (lvM l len) (most - 1)).length) (w : World) (hst : ZsAt w a l) :
    Calls Try.prog 6 #[.slice a len cap, .int .i64 most] w fun e w' => ∃ rb : Nat, e = .returned (.tuple #[.slice (some ⟨rb, 0, none⟩) len len, .int .i64 0]) ∧ w.heap.size ≤ rb ∧ Has w' rb 3 (lenArr (flatS (chosen (lvM l len) most)) len) ∧ Bw w w' := by
  have HL := hid (leaves_ok a len cap l hll h320 hok w hst)
  have HN := hid hn
  have HF := hid hfit
  have hbd := lvM_bnd l hok len (by rw [hll.out]; exact Nat.le_refl _)
  have HBD := hid hbd
  have HSY := hid (lvlM_sym (lvM_sym l len) (most - 1))
  have hpi : (n : Int) ≤ 2 ^ most := by
    have : ((2 ^ most : Nat) : Int) = (2 : Int) ^ most := by simp
    omega
  have hwp : wrap64 ((2 : Int) ^ most) = 2 ^ most := by
    have h1 : ((2 ^ most : Nat) : Int) = (2 : Int) ^ most := by simp
    have h3 : 2 ^ most ≤ 2 ^ 15 := Nat.pow_le_pow_right (by decide) hm15
    have h4 := Nat.two_pow_pos most
    unfold wrap64; omega
  have hpj : (n : Int) ≤ wrap64 ((2 : Int) ^ most) := by rw [hwp]; exact hpi
  have hlni : (len : Int) ≤ 320 := by omega
  have d1 : decide ((most : Int) < 1) = false := decide_eq_false (by omega)
  have d2 : decide (15 < (most : Int)) = false := decide_eq_false (by omega)
  have d3 : decide (320 < (len : Int)) = false := decide_eq_false (by omega)
  have d4 : decide (wrap64 ((2 : Int) ^ most) < (n : Int)) = false := decide_eq_false (by omega)
  clear hwp
  have hmk := fun W => make_ints l len h320 W
  clear hok hst hfit hbd hn
  go_enter Try.func6, Try.ntmps6
  go_wp2_with fail
  refine HL.out.mono ?_
  rintro e w1 ⟨v, N, rfl, hv, hM, hb⟩
  obtain ⟨nn, hnn⟩ : ∃ nn, N.length = nn := ⟨_, rfl⟩
  have hne : nn = n := by rw [← hnn, hM.1]; exact HN.out
  rw [hnn, hne] at hv
  obtain ⟨g0, c0, rfl⟩ := own_some hv (by omega)
  have HV := hid hv
  have HB1 := hid hb
  have HNN := hid (hnn.trans hne)
  have HM := hid hM
  clear hv hb hM hnn hne HL
  go_wp2_with fail
  have HLB := hid (Has.new w1 3 (cArr l len 0))
  have HBA := hid ((Bw.refl w1).alloc (.cells (cArr l len 0) 3))
  have hML : (lvM l len).length = n := HN.out
  have HX := hid (fun g (h : g = w1.heap.size) => Nat.le_of_eq h.symm)
  refine (lightest_few w.heap.size g0 c0 n most N (lvM l len) HNN h2 h9 hm1 hm15 HBD.out (· = w1.heap.size) _ (fun g hg => by rw [hg]; simp) (HV.out.alloc _) ((HM.out.fresh HX.out).bw HBA.out) HF.out).mono ?_
  rintro e w2 ⟨v2, N2, rfl, hv2, hM2, hb2⟩
  rw [World.size_alloc] at hv2
  obtain ⟨v2a, v2c, rfl⟩ := own_slice hv2
  have hC : ((lvlM (lvM l len) (most - 1)).take (2 * n - 2)) = chosen (lvM l len) most := by unfold chosen; rw [hML]
  rw [hC] at hM2
  have HSC := hid (fun m (hm : m ∈ chosen (lvM l len) most) => HSY.out m (List.mem_of_mem_take hm))
  have HBC := hid (fun m (hm : m ∈ chosen (lvM l len) most) => Nat.le_trans (lvlM_bnd _ HBD.out (most - 1) m (List.mem_of_mem_take hm)).2 (Nat.pow_le_pow_right (show 0 < 2 by decide) (show most - 1 ≤ 14 by omega)))
  have hCn : (chosen (lvM l len) most).length ≤ 2 * n - 2 := by unfold chosen; rw [hML]; exact List.length_take_le _ _
  have HV2 := hid hv2
  have HM2 := hid hM2
  have HB2 := hid hb2
  have HLB2 := hid (hb2.has HLB.out)
  rw [lenArr_zero] at HLB2
  obtain ⟨n2, hn2⟩ : ∃ n2, N2.length = n2 := ⟨_, rfl⟩
  have hCl : (chosen (lvM l len) most).length = n2 := by rw [← hM2.1]; exact hn2
  have HCL := hid hCl
  have hn18 : n2 ≤ 16 := by rw [hCl] at hCn; omega
  have HN2 := hid hn2
  rw [hn2] at HV2 ⊢
  have hb2z := hb2.size
  rw [World.size_alloc] at hb2z
  clear hCn hv2 hM2 hb2 hC hML hCl hn2 HSY HF HM HV HBD
  obtain ⟨lb, hlb⟩ : ∃ lb, w1.heap.size = lb := ⟨_, rfl⟩
  have hw1b := HB1.out.size
  rw [hlb] at hb2z HV2 HLB2 HM2 hw1b ⊢
  have HLBE := hid hlb
  have HBW := hid (show Bw w w2 from HB1.out.trans (HBA.out.trans HB2.out))
  clear hlb HLB HBA HB2
  generalize hCe : chosen (lvM l len) most = C at *
  have HCE := hid hCe
  clear hCe
  have hw2z : lb < w2.heap.size := by omega
  go_wp2_with fail
  go_loopw [45] (fun i wr => ∃ (k : Nat), k ≤ n2 ∧ i = .int .i64 k ∧ Has wr lb 3 (lenArr (flatS (C.take k)) len) ∧ Keeps (· = lb) w2 wr) (fun i _ => n2 - (intOf i).toNat)
  case atStart => exact ⟨0, Nat.zero_le _, rfl, HLB2.out, Keeps.refl _ _⟩
  case round =>
    obtain ⟨k, hk, rfl, hlb, hkp⟩ := hrel
    have HLBK := hid hlb
    have HKP := hid hkp
    have hkz := hkp.size
    clear hlb
    by_cases hlt : k < n2
    · have hlti : (k : Int) < n2 := by omega
      obtain ⟨rb2, cp2, hv2⟩ := own_some HV2.out (by omega)
      obtain ⟨rfl, rfl⟩ : v2a = some ⟨rb2, 0, none⟩ ∧ v2c = cp2 := by simpa using hv2
      have hkN : k < N2.length := by rw [HN2.out]; exact hlt
      have hkC : k < C.length := by rw [HCL.out]; exact hlt
      have hr2 := own_ge HV2.out (b := rb2) rfl
      have hrl := own_lt HV2.out (b := rb2) rfl
      obtain ⟨hwt, g, cp, hsy, hsp, hsr, hsx⟩ := HM2.out.2 k hkN hkC
      have hnc := flat2_get ndE (fun _ => rfl) N2 k
      have x0 := (World.cell?_of_block (hkp.block rb2 hrl (show ¬ rb2 = lb by omega))).trans (ownp_cell HV2.out (hnc 0 hkN (by omega)))
      have x1 := (World.cell?_of_block (hkp.block rb2 hrl (show ¬ rb2 = lb by omega))).trans (ownp_cell HV2.out (hnc 1 hkN (by omega)))
      have HFS := hid (flatS_snoc C k hkC)
      have hyl : (C[k]).2.length ≤ 16384 := HBC.out C[k] (List.getElem_mem hkC)
      have hFl : (flatS (C.take k)).length ≤ k * 16384 := by
        have h1 := flatS_len 16384 (C.take k) (fun m hm => HBC.out m (List.mem_of_mem_take hm))
        rw [List.length_take] at h1
        have : min k C.length ≤ k := Nat.min_le_left _ _
        have h3 : min k C.length * 16384 ≤ k * 16384 := Nat.mul_le_mul_right _ this
        omega
      have hsl := HSC.out C[k] (List.getElem_mem hkC)
      generalize N2[k] = x at *
      generalize C[k] = y at *
      obtain ⟨xw, xs⟩ := x
      obtain ⟨yw, ys⟩ := y
      simp only at hwt hsy hsp hsr hsl HFS hyl
      subst hwt hsy
      have y0 : wr.cell? ⟨rb2, k * 2, none⟩ = some (.int .i64 (yw : Nat)) := by rw [Nat.mul_comm]; exact x0
      have y1 : wr.cell? ⟨rb2, k * 2 + 1, none⟩ = some (.slice (some ⟨g, 0, none⟩) ys.length cp) := by rw [Nat.mul_comm]; exact x1
      clear x0 x1
      have HSL := hid hsl
      have HSR := hid hsr
      have hgl := own_lt hsr (b := g) rfl
      have hsx2 : ¬ g = lb := hsx
      clear hnc hsl hsr hkN hkC hkp hsx hv2
      go_wp2_with fail
      have HL4 := hid (HLBK.out.alloc (.cells #[.int .i64 (yw : Nat), .slice (some ⟨g, 0, none⟩) ys.length cp] 45))
      have HK4 := hid (HKP.out.alloc (.cells #[.int .i64 (yw : Nat), .slice (some ⟨g, 0, none⟩) ys.length cp] 45))
      generalize flatS (C.take k) = F at *
      go_loopw [52] (fun i wq => ∃ (j : Nat), j ≤ ys.length ∧ i = .int .i64 j ∧ Has wq lb 3 (lenArr (F ++ ys.take j) len) ∧ Keeps (· = lb) w2 wq) (fun i _ => ys.length - (intOf i).toNat)
      case atStart => exact ⟨0, Nat.zero_le _, rfl, by rw [List.take_zero, List.append_nil]; exact HL4.out, HK4.out⟩
      case round =>
        obtain ⟨j, hj, rfl, hlb, hkp⟩ := hrel
        rename World => wq
        have HLBJ := hid hlb
        have HKJ := hid hkp
        by_cases hjl : j < ys.length
        · have hjli : (j : Int) < ys.length := by omega
          have z0 : (symCells ys)[j]? = some (.int .i64 (ys[j] : Nat)) := by simp [symCells, hjl]
          have y2 := (World.cell?_of_block (hkp.block g hgl hsx2)).trans (ownp_cell HSR.out z0)
          have hs := HSL.out ys[j] (List.getElem_mem hjl)
          have hts : ys.take (j + 1) = ys.take j ++ [ys[j]] := List.take_succ_eq_append_getElem hjl
          have HTS := hid hts
          clear z0 hts
          generalize ys[j] = sy at *
          have hsi : (sy : Int) < len := by omega
          have cl := (hlb.cell sy).trans (lenArr_get (F ++ ys.take j) len sy hs)
          have fl := hlb.frozen sy
          have hcb : (F ++ ys.take j).count sy ≤ (F ++ ys.take j).length := List.count_le_length
          rw [List.length_append, List.length_take] at hcb
          have hmin : min j ys.length ≤ j := Nat.min_le_left _ _
          have HP := hid (hlb.put sy (.int .i64 ((F ++ ys.take j).count sy + 1 : Nat)))
          rw [lenArr_put (F ++ ys.take j) len sy hs, List.append_assoc, ← HTS.out] at HP
          have HPK := hid (hkp.setCell (p := ⟨lb, sy, none⟩) (.inl rfl) (.int .i64 ((F ++ ys.take j).count sy + 1 : Nat)))
          have hbig : (F ++ ys.take j).count sy < 4611686018427387904 := big_cnt hcb hmin hFl hjl hyl hk hn18
          clear hcb hlb hkp hmin
          generalize (F ++ ys.take j).count sy = cn at *
          go_wp2
          refine ⟨⟨j + 1, by omega, by go_num, by simpa using HP.out, by simpa using HPK.out⟩, by simp [intOf]; omega⟩
        · obtain rfl : j = ys.length := by omega
          rw [List.take_length, ← HFS.out] at HLBJ
          go_wp2
          go_roundw
          case rel => exact ⟨k + 1, by omega, by go_num, HLBJ.out, HKJ.out⟩
          case measure => simp [intOf]; omega
    · obtain rfl : k = n2 := by omega
      have hT : C.take k = C := List.take_of_length_le (by rw [HCL.out]; exact Nat.le_refl _)
      rw [hT] at HLBK
      clear hT hkp
      go_wp2
      go_returns
      exact ⟨lb, rfl, hw1b, by rw [HCE.out]; exact HLBK.out, Below.trans HBW.out (HKP.out.below (by have := HBW.out.size; omega) (fun i hi => by omega))⟩
end Go.Proofs.Ytcacnidlfjglbaa

/- The document's Check (contract of the function). -/
import Derived.Test.YtlilmidffcmkjaaDoorExpI
import Derived.Test.YtlilmidffcmkjaaDoorExpJ
namespace Go.Proofs.YtlilmidffcmkjaaDoor
open Go.RowKit
set_option linter.unusedVariables false
set_option linter.unusedSimpArgs false
theorem lvl_nil : lvlOf ⟨#[]⟩ = 0 := by decide
set_option maxRecDepth 100000 in
set_option maxHeartbeats 16000000 in
theorem rcheck_any (a : Option Addr) (len cap : Nat) (hlen : len ≤ 9223372036854775807) (l : List ExpR) (hll : Hid (l.length = len)) (w : World) (hst : ExpAt w a l) :
    Calls Tryd.prog 9 #[.slice a len cap] w fun e w' => e = .returned (.int .i64 (checkX l)) ∧ Bw w w' := by
  by_cases h4 : len ≤ 400
  · have HC := hid (check_short (l := l) (by rw [hll.out]; exact h4))
    have g4 : ¬ (400 : Int) < (len : Nat) := by omega
    have HST := hid hst
    clear hst
    go_enter Tryd.func9, Tryd.ntmps9
    go_wp2
    go_loopw [3] (fun i wr => ∃ k : Nat, k ≤ len ∧ i = .int .i64 k ∧ Hid (allGo (l.drop k) k = allGo l 0) ∧ Bw w wr) (fun i _ => len - (intOf i).toNat)
    case atStart => exact ⟨0, Nat.zero_le _, rfl, hid rfl, Bw.refl w⟩
    case round =>
      rename World => wr
      obtain ⟨k, hk, rfl, HA, hb⟩ := hrel
      have HB := hid hb
      clear hb
      by_cases hlt : k < len
      · have hkl : k < l.length := by rw [hll.out]; exact hlt
        have hk1 : (k : Int) < len := by omega
        obtain ⟨b, off, rfl, hbb, c0, c1, c2, c3, c4, hv⟩ := HST.out.below HB.out k hkl
        have hnx := allGo_next hkl
        obtain ⟨⟨o, nm, n, x, y⟩, hx⟩ : ∃ q, l[k] = q := ⟨_, rfl⟩
        rw [hx] at c0 c1 c2 c3 c4 hv hnx
        simp only at c0 c1 c2 c3 c4
        obtain ⟨v0, v1, v2, v3, v4⟩ := hv
        simp only at v0 v1 v2 v3 v4
        rw [HA.out] at hnx
        have HB1 := hid (HB.out.alloc (.cells #[.string o, .string nm, .int .u64 n, .int .i64 x, .int .i64 y] 42))
        clear hx hkl hbb
        by_cases h0 : o = ⟨#[]⟩
        · have he0 : lvlOf o = 0 := by rw [h0]; exact lvl_nil
          have hd0 := decide_eq_true (show o = nilS from h0)
          by_cases h1 : nm = ⟨#[]⟩
          · have hd1 := decide_eq_true (show nm = nilS from h1)
            by_cases h2 : n ≤ mostN
            · have k1 : ((n : Nat) : Int) ≤ 4611686018427387904 := by rw [most_eq] at h2; omega
              have k2 : n ≤ 4611686018427387904 := h2
              have hd2 := decide_eq_true h2
              clear h2
              by_cases h3 : x = 0
              · by_cases h4 : y = 0
                · skip
                  have hit : itemB ⟨o, nm, n, x, y⟩ k = true := by
                    unfold itemB leafB operB
                    simp only [hd0, he0, Nat.lt_irrefl, decide_false, hd1, hd2, decide_eq_true h3, decide_eq_true h4, Bool.and_self, Bool.and_false, Bool.false_and, Bool.true_and, Bool.and_true, Bool.or_self, Bool.or_false, Bool.false_or, Bool.or_true, Bool.true_or]
                  have HN2 : Hid (allGo (l.drop (k + 1)) (k + 1) = allGo l 0) := hid (by rw [hnx, hit]; rfl)
                  clear hit hnx
                  subst h0 h1 h3 h4
                  go_wp2
                  exact ⟨⟨k + 1, by omega, by go_num, HN2, HB1.out⟩, by simp [intOf]; omega⟩
                · have t4 : (y != 0) = true := by simpa using h4
                  have hit : itemB ⟨o, nm, n, x, y⟩ k = false := by
                    unfold itemB leafB operB
                    simp only [hd0, he0, Nat.lt_irrefl, decide_false, hd1, hd2, decide_eq_true h3, decide_eq_false h4, Bool.and_self, Bool.and_false, Bool.false_and, Bool.true_and, Bool.and_true, Bool.or_self, Bool.or_false, Bool.false_or, Bool.or_true, Bool.true_or]
                  have HN2 : Hid (checkX l = 9) := hid (by rw [HC.out, hnx, hit]; rfl)
                  clear hit hnx
                  subst h0 h1 h3
                  clear h4
                  go_wp2
                  go_returns
                  exact ⟨by rw [HN2.out]; rfl, HB1.out⟩
              · have t3 : (x != 0) = true := by simpa using h3
                have hit : itemB ⟨o, nm, n, x, y⟩ k = false := by
                  unfold itemB leafB operB
                  simp only [hd0, he0, Nat.lt_irrefl, decide_false, hd1, hd2, decide_eq_false h3, Bool.and_self, Bool.and_false, Bool.false_and, Bool.true_and, Bool.and_true, Bool.or_self, Bool.or_false, Bool.false_or, Bool.or_true, Bool.true_or]
                have HN2 : Hid (checkX l = 9) := hid (by rw [HC.out, hnx, hit]; rfl)
                clear hit hnx
                subst h0 h1
                clear h3
                go_wp2
                go_returns
                exact ⟨by rw [HN2.out]; rfl, HB1.out⟩
            · have k1 : ¬ ((n : Nat) : Int) ≤ 4611686018427387904 := by rw [most_eq] at h2; omega
              have k2 : ¬ n ≤ 4611686018427387904 := h2
              have k3 : (((n : Nat) : Int) == 0) = false := by rw [beq_eq_false_iff_ne]; rw [most_eq] at h2; omega
              have hd2 := decide_eq_false h2
              have hd3 : decide (n = 0) = false := decide_eq_false (by rw [most_eq] at h2; omega)
              clear h2
              have hit : itemB ⟨o, nm, n, x, y⟩ k = false := by
                unfold itemB leafB operB
                simp only [hd0, he0, Nat.lt_irrefl, decide_false, hd1, hd2, hd3, Bool.and_self, Bool.and_false, Bool.false_and, Bool.true_and, Bool.and_true, Bool.or_self, Bool.or_false, Bool.false_or, Bool.or_true, Bool.true_or]
              have HN2 : Hid (checkX l = 9) := hid (by rw [HC.out, hnx, hit]; rfl)
              clear hit hnx
              subst h0 h1
              go_wp2
              go_returns
              exact ⟨by rw [HN2.out]; rfl, HB1.out⟩
          · have t1 := toList_ne nm h1
            have hd1 := nil_dec nm h1
            by_cases h2 : n = 0
            · have HNM := hid (fun W => rName_any nm v1 W)
              have hd2 := decide_eq_true h2
              cases hnb : nameB nm with
              | true =>
                rw [hnb] at HNM
                clear h1
                by_cases h3 : x = 0
                · by_cases h4 : y = 0
                  · skip
                    have hit : itemB ⟨o, nm, n, x, y⟩ k = true := by
                      unfold itemB leafB operB
                      simp only [hd0, he0, Nat.lt_irrefl, decide_false, hd1, hd2, hnb, decide_eq_true h3, decide_eq_true h4, Bool.and_self, Bool.and_false, Bool.false_and, Bool.true_and, Bool.and_true, Bool.or_self, Bool.or_false, Bool.false_or, Bool.or_true, Bool.true_or]
                    have HN2 : Hid (allGo (l.drop (k + 1)) (k + 1) = allGo l 0) := hid (by rw [hnx, hit]; rfl)
                    clear hit hnx
                    subst h0 h2 h3 h4
                    go_wp2_with fail
                    refine (HNM.out _).mono ?_
                    rintro e w2 ⟨rfl, rfl⟩
                    go_wp2
                    exact ⟨⟨k + 1, by omega, by go_num, HN2, HB1.out⟩, by simp [intOf]; omega⟩
                  · have t4 : (y != 0) = true := by simpa using h4
                    have hit : itemB ⟨o, nm, n, x, y⟩ k = false := by
                      unfold itemB leafB operB
                      simp only [hd0, he0, Nat.lt_irrefl, decide_false, hd1, hd2, hnb, decide_eq_true h3, decide_eq_false h4, Bool.and_self, Bool.and_false, Bool.false_and, Bool.true_and, Bool.and_true, Bool.or_self, Bool.or_false, Bool.false_or, Bool.or_true, Bool.true_or]
                    have HN2 : Hid (checkX l = 9) := hid (by rw [HC.out, hnx, hit]; rfl)
                    clear hit hnx
                    subst h0 h2 h3
                    clear h4
                    go_wp2_with fail
                    refine (HNM.out _).mono ?_
                    rintro e w2 ⟨rfl, rfl⟩
                    go_wp2
                    go_returns
                    exact ⟨by rw [HN2.out]; rfl, HB1.out⟩
                · have t3 : (x != 0) = true := by simpa using h3
                  have hit : itemB ⟨o, nm, n, x, y⟩ k = false := by
                    unfold itemB leafB operB
                    simp only [hd0, he0, Nat.lt_irrefl, decide_false, hd1, hd2, hnb, decide_eq_false h3, Bool.and_self, Bool.and_false, Bool.false_and, Bool.true_and, Bool.and_true, Bool.or_self, Bool.or_false, Bool.false_or, Bool.or_true, Bool.true_or]
                  have HN2 : Hid (checkX l = 9) := hid (by rw [HC.out, hnx, hit]; rfl)
                  clear hit hnx
                  subst h0 h2
                  clear h3
                  go_wp2_with fail
                  refine (HNM.out _).mono ?_
                  rintro e w2 ⟨rfl, rfl⟩
                  go_wp2
                  go_returns
                  exact ⟨by rw [HN2.out]; rfl, HB1.out⟩
              | false =>
                rw [hnb] at HNM
                clear h1
                have hit : itemB ⟨o, nm, n, x, y⟩ k = false := by
                  unfold itemB leafB operB
                  simp only [hd0, he0, Nat.lt_irrefl, decide_false, hd1, hd2, hnb, Bool.and_self, Bool.and_false, Bool.false_and, Bool.true_and, Bool.and_true, Bool.or_self, Bool.or_false, Bool.false_or, Bool.or_true, Bool.true_or]
                have HN2 : Hid (checkX l = 9) := hid (by rw [HC.out, hnx, hit]; rfl)
                clear hit hnx
                subst h0 h2
                go_wp2_with fail
                refine (HNM.out _).mono ?_
                rintro e w2 ⟨rfl, rfl⟩
                go_wp2
                go_returns
                exact ⟨by rw [HN2.out]; rfl, HB1.out⟩
            · have k3 : (((n : Nat) : Int) == 0) = false := by rw [beq_eq_false_iff_ne]; omega
              have hd2 := decide_eq_false h2
              have hit : itemB ⟨o, nm, n, x, y⟩ k = false := by
                unfold itemB leafB operB
                simp only [hd0, he0, Nat.lt_irrefl, decide_false, hd1, hd2, Bool.and_self, Bool.and_false, Bool.false_and, Bool.true_and, Bool.and_true, Bool.or_self, Bool.or_false, Bool.false_or, Bool.or_true, Bool.true_or]
              have HN2 : Hid (checkX l = 9) := hid (by rw [HC.out, hnx, hit]; rfl)
              clear hit hnx
              subst h0
              clear h1 h2
              go_wp2
              go_returns
              exact ⟨by rw [HN2.out]; rfl, HB1.out⟩
        · have t0 := toList_ne o h0
          have hd0 := nil_dec o h0
          have HLV := hid (fun W => rLevel_any o W)
          obtain ⟨lv, hlv⟩ : ∃ lv, lvlOf o = lv := ⟨_, rfl⟩
          rw [hlv] at HLV
          clear h0
          by_cases h1 : 0 < lv
          · skip
            have k1 : (((lv : Nat) : Int) == 0) = false := by rw [beq_eq_false_iff_ne]; omega
            by_cases h2 : nm = ⟨#[]⟩
            · skip
              by_cases h3 : n = 0
              · skip
                by_cases h4 : 0 ≤ x
                · skip
                  have k4 : ¬ x < (0 : Int) := by omega
                  have k4b : decide (x < (0 : Int)) = false := decide_eq_false (by omega)
                  by_cases h5 : x < k
                  · skip
                    have k5b : decide (((k : Nat) : Int) ≤ x) = false := decide_eq_false (by omega)
                    by_cases h6 : 0 ≤ y
                    · skip
                      have k6b : decide (y < (0 : Int)) = false := decide_eq_false (by omega)
                      by_cases h7 : y < k
                      · skip
                        have k7b : decide (((k : Nat) : Int) ≤ y) = false := decide_eq_false (by omega)
                        have hit : itemB ⟨o, nm, n, x, y⟩ k = true := by
                          unfold itemB leafB operB
                          simp only [hd0, hlv, decide_eq_true h1, decide_eq_true (show nm = nilS from h2), decide_eq_true h3, decide_eq_true h4, decide_eq_true h5, decide_eq_true h6, decide_eq_true h7, Bool.and_self, Bool.and_false, Bool.false_and, Bool.true_and, Bool.and_true, Bool.or_self, Bool.or_false, Bool.false_or, Bool.or_true, Bool.true_or]
                        have HN2 : Hid (allGo (l.drop (k + 1)) (k + 1) = allGo l 0) := hid (by rw [hnx, hit]; rfl)
                        clear hit hnx
                        subst h2 h3
                        clear h1 h4 h5 h6 h7 hlv
                        go_wp2_with fail
                        refine (HLV.out _).mono ?_
                        rintro e w2 ⟨rfl, rfl⟩
                        go_wp2
                        exact ⟨⟨k + 1, by omega, by go_num, HN2, HB1.out⟩, by simp [intOf]; omega⟩
                      · skip
                        have k7b : decide (((k : Nat) : Int) ≤ y) = true := decide_eq_true (by omega)
                        have hit : itemB ⟨o, nm, n, x, y⟩ k = false := by
                          unfold itemB leafB operB
                          simp only [hd0, hlv, decide_eq_true h1, decide_eq_true (show nm = nilS from h2), decide_eq_true h3, decide_eq_true h4, decide_eq_true h5, decide_eq_true h6, decide_eq_false h7, Bool.and_self, Bool.and_false, Bool.false_and, Bool.true_and, Bool.and_true, Bool.or_self, Bool.or_false, Bool.false_or, Bool.or_true, Bool.true_or]
                        have HN2 : Hid (checkX l = 9) := hid (by rw [HC.out, hnx, hit]; rfl)
                        clear hit hnx
                        subst h2 h3
                        clear h1 h4 h5 h6 h7 hlv
                        go_wp2_with fail
                        refine (HLV.out _).mono ?_
                        rintro e w2 ⟨rfl, rfl⟩
                        go_wp2
                        go_returns
                        exact ⟨by rw [HN2.out]; rfl, HB1.out⟩
                    · skip
                      have k6b : decide (y < (0 : Int)) = true := decide_eq_true (by omega)
                      have hit : itemB ⟨o, nm, n, x, y⟩ k = false := by
                        unfold itemB leafB operB
                        simp only [hd0, hlv, decide_eq_true h1, decide_eq_true (show nm = nilS from h2), decide_eq_true h3, decide_eq_true h4, decide_eq_true h5, decide_eq_false h6, Bool.and_self, Bool.and_false, Bool.false_and, Bool.true_and, Bool.and_true, Bool.or_self, Bool.or_false, Bool.false_or, Bool.or_true, Bool.true_or]
                      have HN2 : Hid (checkX l = 9) := hid (by rw [HC.out, hnx, hit]; rfl)
                      clear hit hnx
                      subst h2 h3
                      clear h1 h4 h5 h6 hlv
                      go_wp2_with fail
                      refine (HLV.out _).mono ?_
                      rintro e w2 ⟨rfl, rfl⟩
                      go_wp2
                      go_returns
                      exact ⟨by rw [HN2.out]; rfl, HB1.out⟩
                  · skip
                    have k5b : decide (((k : Nat) : Int) ≤ x) = true := decide_eq_true (by omega)
                    have hit : itemB ⟨o, nm, n, x, y⟩ k = false := by
                      unfold itemB leafB operB
                      simp only [hd0, hlv, decide_eq_true h1, decide_eq_true (show nm = nilS from h2), decide_eq_true h3, decide_eq_true h4, decide_eq_false h5, Bool.and_self, Bool.and_false, Bool.false_and, Bool.true_and, Bool.and_true, Bool.or_self, Bool.or_false, Bool.false_or, Bool.or_true, Bool.true_or]
                    have HN2 : Hid (checkX l = 9) := hid (by rw [HC.out, hnx, hit]; rfl)
                    clear hit hnx
                    subst h2 h3
                    clear h1 h4 h5 hlv
                    go_wp2_with fail
                    refine (HLV.out _).mono ?_
                    rintro e w2 ⟨rfl, rfl⟩
                    go_wp2
                    go_returns
                    exact ⟨by rw [HN2.out]; rfl, HB1.out⟩
                · skip
                  have k4b : decide (x < (0 : Int)) = true := decide_eq_true (by omega)
                  have hit : itemB ⟨o, nm, n, x, y⟩ k = false := by
                    unfold itemB leafB operB
                    simp only [hd0, hlv, decide_eq_true h1, decide_eq_true (show nm = nilS from h2), decide_eq_true h3, decide_eq_false h4, Bool.and_self, Bool.and_false, Bool.false_and, Bool.true_and, Bool.and_true, Bool.or_self, Bool.or_false, Bool.false_or, Bool.or_true, Bool.true_or]
                  have HN2 : Hid (checkX l = 9) := hid (by rw [HC.out, hnx, hit]; rfl)
                  clear hit hnx
                  subst h2 h3
                  clear h1 h4 hlv
                  go_wp2_with fail
                  refine (HLV.out _).mono ?_
                  rintro e w2 ⟨rfl, rfl⟩
                  go_wp2
                  go_returns
                  exact ⟨by rw [HN2.out]; rfl, HB1.out⟩
              · skip
                have k3 : (((n : Nat) : Int) != 0) = true := by simp; omega
                have hit : itemB ⟨o, nm, n, x, y⟩ k = false := by
                  unfold itemB leafB operB
                  simp only [hd0, hlv, decide_eq_true h1, decide_eq_true (show nm = nilS from h2), decide_eq_false h3, Bool.and_self, Bool.and_false, Bool.false_and, Bool.true_and, Bool.and_true, Bool.or_self, Bool.or_false, Bool.false_or, Bool.or_true, Bool.true_or]
                have HN2 : Hid (checkX l = 9) := hid (by rw [HC.out, hnx, hit]; rfl)
                clear hit hnx
                subst h2
                clear h1 h3 hlv
                go_wp2_with fail
                refine (HLV.out _).mono ?_
                rintro e w2 ⟨rfl, rfl⟩
                go_wp2
                go_returns
                exact ⟨by rw [HN2.out]; rfl, HB1.out⟩
            · skip
              have k2 := toList_ne nm h2
              have hit : itemB ⟨o, nm, n, x, y⟩ k = false := by
                unfold itemB leafB operB
                simp only [hd0, hlv, decide_eq_true h1, nil_dec nm h2, Bool.and_self, Bool.and_false, Bool.false_and, Bool.true_and, Bool.and_true, Bool.or_self, Bool.or_false, Bool.false_or, Bool.or_true, Bool.true_or]
              have HN2 : Hid (checkX l = 9) := hid (by rw [HC.out, hnx, hit]; rfl)
              clear hit hnx
              clear h1 h2 hlv
              go_wp2_with fail
              refine (HLV.out _).mono ?_
              rintro e w2 ⟨rfl, rfl⟩
              go_wp2
              go_returns
              exact ⟨by rw [HN2.out]; rfl, HB1.out⟩
          · skip
            have k1 : lv = 0 := by omega
            have hit : itemB ⟨o, nm, n, x, y⟩ k = false := by
              unfold itemB leafB operB
              simp only [hd0, hlv, decide_eq_false h1, Bool.and_self, Bool.and_false, Bool.false_and, Bool.true_and, Bool.and_true, Bool.or_self, Bool.or_false, Bool.false_or, Bool.or_true, Bool.true_or]
            have HN2 : Hid (checkX l = 9) := hid (by rw [HC.out, hnx, hit]; rfl)
            clear hit hnx
            clear h1 hlv
            subst k1
            go_wp2_with fail
            refine (HLV.out _).mono ?_
            rintro e w2 ⟨rfl, rfl⟩
            go_wp2
            go_returns
            exact ⟨by rw [HN2.out]; rfl, HB1.out⟩
      · obtain rfl : k = len := by omega
        have hE : checkX l = 0 := by
          rw [HC.out, ← HA.out, List.drop_of_length_le (by rw [hll.out]; exact Nat.le_refl _)]
          rfl
        have HE := hid hE
        clear hE
        go_wp2
        go_returns
        exact ⟨by rw [HE.out]; rfl, HB.out⟩
  · have HC := hid (check_long (l := l) (by rw [hll.out]; exact h4))
    have g4 : (400 : Int) < (len : Nat) := by omega
    clear hst h4
    go_enter Tryd.func9, Tryd.ntmps9
    go_wp2
    go_returns
    exact ⟨by rw [HC.out]; rfl, Bw.refl w⟩
end Go.Proofs.YtlilmidffcmkjaaDoor

/- Leaves and operations of a list (contracts of the functions; the listed table holds what the program's text lays). -/
import Derived.Test.YtlilmidffcmkjaaGreatDoorExpG
namespace Go.Proofs.YtlilmidffcmkjaaGreatDoor
open Go.RowKit
set_option linter.unusedVariables false
set_option linter.unusedSimpArgs false
theorem nil_eq : (⟨#[]⟩ : ByteArray) = nilS := rfl
theorem nil_dec (v : ByteArray) (h : v ≠ ⟨#[]⟩) : decide (v = nilS) = false := decide_eq_false h
theorem most_eq : mostN = 4611686018427387904 := rfl
set_option maxRecDepth 100000 in
set_option maxHeartbeats 4000000 in
theorem isLeaf_any (o nm : ByteArray) (n : Nat) (hn : n < 18446744073709551616) (l r : Int) (hz : nm.size ≤ 9223372036854775807) (w : World) :
    Calls Tryz.prog 42 #[.agg #[.string o, .string nm, .int .u64 n, .int .i64 l, .int .i64 r]] w fun e w' => e = .returned (.bool (leafB ⟨o, nm, n, l, r⟩)) ∧ Bw w w' := by
  by_cases ho : o = ⟨#[]⟩
  · subst ho
    by_cases hl : l = 0
    · subst hl
      by_cases hr : r = 0
      · subst hr
        by_cases hm : nm = ⟨#[]⟩
        · subst hm
          by_cases hk : n ≤ mostN
          · have HF := hid (show leafB ⟨⟨#[]⟩, ⟨#[]⟩, n, 0, 0⟩ = true by
              unfold leafB
              simp only [decide_eq_true hk, decide_eq_true nil_eq, decide_true, Bool.and_self, Bool.true_or])
            have k1 : ((n : Nat) : Int) ≤ 4611686018427387904 := by rw [most_eq] at hk; omega
            have k2 : n ≤ 4611686018427387904 := hk
            clear hk hz
            go_enter Tryz.func42, Tryz.ntmps42
            go_wp2
            go_returns
            exact ⟨by rw [HF.out]; rfl, by unfold Bw; go_grown⟩
          · have HF := hid (show leafB ⟨⟨#[]⟩, ⟨#[]⟩, n, 0, 0⟩ = false by
              unfold leafB
              have : decide (n = 0) = false := decide_eq_false (by rw [most_eq] at hk; omega)
              simp only [decide_eq_false hk, this, Bool.and_false, Bool.false_and, Bool.or_false])
            have k1 : ¬ ((n : Nat) : Int) ≤ 4611686018427387904 := by rw [most_eq] at hk; omega
            have k2 : ¬ n ≤ 4611686018427387904 := hk
            have k3 : (((n : Nat) : Int) == 0) = false := by rw [beq_eq_false_iff_ne]; rw [most_eq] at hk; omega
            clear hk hz
            go_enter Tryz.func42, Tryz.ntmps42
            go_wp2
            go_returns
            exact ⟨by rw [HF.out]; rfl, by unfold Bw; go_grown⟩
        · have tm := toList_ne nm hm
          by_cases hk : n = 0
          · subst hk
            have HN := hid (fun W => isName_any nm hz W)
            have HF := hid (show leafB ⟨⟨#[]⟩, nm, 0, 0, 0⟩ = nameB nm by
              unfold leafB
              simp only [nil_dec nm hm, decide_eq_true nil_eq, decide_true, Bool.and_self, Bool.false_and, Bool.false_or, Bool.true_and])
            clear hm hz
            go_enter Tryz.func42, Tryz.ntmps42
            go_wp2_with fail
            refine (HN.out _).mono ?_
            rintro e w2 ⟨rfl, rfl⟩
            go_wp2
            go_returns
            exact ⟨by rw [HF.out]; rfl, by unfold Bw; go_grown⟩
          · have HF := hid (show leafB ⟨⟨#[]⟩, nm, n, 0, 0⟩ = false by
              unfold leafB
              simp only [nil_dec nm hm, decide_eq_false hk, Bool.false_and, Bool.or_self, Bool.and_false])
            have k3 : (((n : Nat) : Int) == 0) = false := by rw [beq_eq_false_iff_ne]; omega
            clear hm hk hz
            go_enter Tryz.func42, Tryz.ntmps42
            go_wp2
            go_returns
            exact ⟨by rw [HF.out]; rfl, by unfold Bw; go_grown⟩
      · have HF := hid (show leafB ⟨⟨#[]⟩, nm, n, 0, r⟩ = false by
          unfold leafB
          simp only [decide_eq_false hr, Bool.and_false, Bool.false_and])
        have k3 : (r != 0) = true := by simpa using hr
        clear hr hz
        go_enter Tryz.func42, Tryz.ntmps42
        go_wp2
        go_returns
        exact ⟨by rw [HF.out]; rfl, by unfold Bw; go_grown⟩
    · have HF := hid (show leafB ⟨⟨#[]⟩, nm, n, l, r⟩ = false by
        unfold leafB
        simp only [decide_eq_false hl, Bool.and_false, Bool.false_and])
      have k3 : (l != 0) = true := by simpa using hl
      clear hl hz
      go_enter Tryz.func42, Tryz.ntmps42
      go_wp2
      go_returns
      exact ⟨by rw [HF.out]; rfl, by unfold Bw; go_grown⟩
  · have HF := hid (show leafB ⟨o, nm, n, l, r⟩ = false by
      unfold leafB
      simp only [nil_dec o ho, Bool.false_and])
    have tm := toList_ne o ho
    clear ho hz
    go_enter Tryz.func42, Tryz.ntmps42
    go_wp2
    go_returns
    exact ⟨by rw [HF.out]; rfl, by unfold Bw; go_grown⟩
set_option maxRecDepth 100000 in
set_option maxHeartbeats 8000000 in
theorem isOperation_any (o nm : ByteArray) (n : Nat) (hn : n < 18446744073709551616) (l r : Int) (i : Nat) (hi : i ≤ 1000) (w : World) (hS : SgnAt w) :
    Calls Tryz.prog 43 #[.agg #[.string o, .string nm, .int .u64 n, .int .i64 l, .int .i64 r], .int .i64 (i : Nat)] w fun e w' => e = .returned (.bool (operB ⟨o, nm, n, l, r⟩ i)) ∧ Bw w w' := by
  have HLV := hid (fun W (h : SgnAt W) => levelOf_any o W h)
  have HS := hid (hS.bw ((Bw.refl w).alloc (.cells #[.string o, .string nm, .int .u64 n, .int .i64 l, .int .i64 r] 42)))
  have HB := hid ((Bw.refl w).alloc (.cells #[.string o, .string nm, .int .u64 n, .int .i64 l, .int .i64 r] 42))
  have HN := hid (Has.new w 42 #[.string o, .string nm, .int .u64 n, .int .i64 l, .int .i64 r])
  have HD := hid (show operB ⟨o, nm, n, l, r⟩ i = (decide (0 < lvlOf o) && decide (nm = nilS) && decide (n = 0) && decide (0 ≤ l) && decide (l < i) && decide (0 ≤ r) && decide (r < i)) from rfl)
  clear hS
  obtain ⟨lv, hlv⟩ : ∃ lv, lvlOf o = lv := ⟨_, rfl⟩
  rw [hlv] at HLV HD
  clear hlv
  by_cases h0 : 0 < lv
  · skip
    have k0 : (0 : Int) < ((lv : Nat) : Int) := by omega
    have k0b : (0 : Nat) < lv := h0
    by_cases h1 : nm = ⟨#[]⟩
    · skip
      subst h1
      by_cases h2 : n = 0
      · skip
        subst h2
        by_cases h3 : 0 ≤ l
        · skip
          have k3 : (0 : Int) ≤ l := h3
          have k3b : decide ((0 : Int) ≤ l) = true := decide_eq_true h3
          by_cases h4 : l < i
          · skip
            have k4b : decide (l < ((i : Nat) : Int)) = true := decide_eq_true h4
            by_cases h5 : 0 ≤ r
            · skip
              have k5b : decide ((0 : Int) ≤ r) = true := decide_eq_true h5
              by_cases h6 : r < i
              · skip
                have k6b : decide (r < ((i : Nat) : Int)) = true := decide_eq_true h6
                have HF := hid (HD.out.trans (show _ = true by simp only [decide_eq_true h0, decide_eq_true nil_eq, decide_true, decide_eq_true h3, decide_eq_true h4, decide_eq_true h5, decide_eq_true h6, Bool.and_self]))
                go_enter Tryz.func43, Tryz.ntmps43
                go_wp2_with fail
                refine (HLV.out _ HS.out).mono ?_
                rintro e w2 ⟨rfl, hb2⟩
                have HB2 := hid (HB.out.trans hb2)
                have HN2 := hid (hb2.has HN.out)
                clear hb2
                have c1 : w2.cell? ⟨w.heap.size, 1, none⟩ = some _ := HN2.out.cell 1
                have c2 : w2.cell? ⟨w.heap.size, 2, none⟩ = some _ := HN2.out.cell 2
                have c3 : w2.cell? ⟨w.heap.size, 3, none⟩ = some _ := HN2.out.cell 3
                have c4 : w2.cell? ⟨w.heap.size, 4, none⟩ = some _ := HN2.out.cell 4
                go_wp2
                go_returns
                exact ⟨by rw [HF.out]; rfl, HB2.out⟩
              · have HF := hid (HD.out.trans (show _ = false by simp only [decide_eq_true h0, decide_eq_true nil_eq, decide_true, decide_eq_true h3, decide_eq_true h4, decide_eq_true h5, decide_eq_false h6, Bool.and_false, Bool.false_and, Bool.and_self, Bool.true_and]))
                have k6b : decide (r < ((i : Nat) : Int)) = false := decide_eq_false h6
                clear h6
                go_enter Tryz.func43, Tryz.ntmps43
                go_wp2_with fail
                refine (HLV.out _ HS.out).mono ?_
                rintro e w2 ⟨rfl, hb2⟩
                have HB2 := hid (HB.out.trans hb2)
                have HN2 := hid (hb2.has HN.out)
                clear hb2
                have c1 : w2.cell? ⟨w.heap.size, 1, none⟩ = some _ := HN2.out.cell 1
                have c2 : w2.cell? ⟨w.heap.size, 2, none⟩ = some _ := HN2.out.cell 2
                have c3 : w2.cell? ⟨w.heap.size, 3, none⟩ = some _ := HN2.out.cell 3
                have c4 : w2.cell? ⟨w.heap.size, 4, none⟩ = some _ := HN2.out.cell 4
                go_wp2
                go_returns
                exact ⟨by rw [HF.out]; rfl, HB2.out⟩
            · have HF := hid (HD.out.trans (show _ = false by simp only [decide_eq_true h0, decide_eq_true nil_eq, decide_true, decide_eq_true h3, decide_eq_true h4, decide_eq_false h5, Bool.and_false, Bool.false_and, Bool.and_self, Bool.true_and]))
              have k5b : decide ((0 : Int) ≤ r) = false := decide_eq_false h5
              clear h5
              go_enter Tryz.func43, Tryz.ntmps43
              go_wp2_with fail
              refine (HLV.out _ HS.out).mono ?_
              rintro e w2 ⟨rfl, hb2⟩
              have HB2 := hid (HB.out.trans hb2)
              have HN2 := hid (hb2.has HN.out)
              clear hb2
              have c1 : w2.cell? ⟨w.heap.size, 1, none⟩ = some _ := HN2.out.cell 1
              have c2 : w2.cell? ⟨w.heap.size, 2, none⟩ = some _ := HN2.out.cell 2
              have c3 : w2.cell? ⟨w.heap.size, 3, none⟩ = some _ := HN2.out.cell 3
              have c4 : w2.cell? ⟨w.heap.size, 4, none⟩ = some _ := HN2.out.cell 4
              go_wp2
              go_returns
              exact ⟨by rw [HF.out]; rfl, HB2.out⟩
          · have HF := hid (HD.out.trans (show _ = false by simp only [decide_eq_true h0, decide_eq_true nil_eq, decide_true, decide_eq_true h3, decide_eq_false h4, Bool.and_false, Bool.false_and, Bool.and_self, Bool.true_and]))
            have k4 : ¬ l < ((i : Nat) : Int) := h4
            have k4b : decide (l < ((i : Nat) : Int)) = false := decide_eq_false h4
            clear h4
            go_enter Tryz.func43, Tryz.ntmps43
            go_wp2_with fail
            refine (HLV.out _ HS.out).mono ?_
            rintro e w2 ⟨rfl, hb2⟩
            have HB2 := hid (HB.out.trans hb2)
            have HN2 := hid (hb2.has HN.out)
            clear hb2
            have c1 : w2.cell? ⟨w.heap.size, 1, none⟩ = some _ := HN2.out.cell 1
            have c2 : w2.cell? ⟨w.heap.size, 2, none⟩ = some _ := HN2.out.cell 2
            have c3 : w2.cell? ⟨w.heap.size, 3, none⟩ = some _ := HN2.out.cell 3
            have c4 : w2.cell? ⟨w.heap.size, 4, none⟩ = some _ := HN2.out.cell 4
            go_wp2
            go_returns
            exact ⟨by rw [HF.out]; rfl, HB2.out⟩
        · have HF := hid (HD.out.trans (show _ = false by simp only [decide_eq_true h0, decide_eq_true nil_eq, decide_true, decide_eq_false h3, Bool.and_false, Bool.false_and, Bool.and_self, Bool.true_and]))
          have k3 : ¬ (0 : Int) ≤ l := h3
          have k3b : decide ((0 : Int) ≤ l) = false := decide_eq_false h3
          clear h3
          go_enter Tryz.func43, Tryz.ntmps43
          go_wp2_with fail
          refine (HLV.out _ HS.out).mono ?_
          rintro e w2 ⟨rfl, hb2⟩
          have HB2 := hid (HB.out.trans hb2)
          have HN2 := hid (hb2.has HN.out)
          clear hb2
          have c1 : w2.cell? ⟨w.heap.size, 1, none⟩ = some _ := HN2.out.cell 1
          have c2 : w2.cell? ⟨w.heap.size, 2, none⟩ = some _ := HN2.out.cell 2
          have c3 : w2.cell? ⟨w.heap.size, 3, none⟩ = some _ := HN2.out.cell 3
          have c4 : w2.cell? ⟨w.heap.size, 4, none⟩ = some _ := HN2.out.cell 4
          go_wp2
          go_returns
          exact ⟨by rw [HF.out]; rfl, HB2.out⟩
      · have HF := hid (HD.out.trans (show _ = false by simp only [decide_eq_true h0, decide_eq_true nil_eq, decide_eq_false h2, Bool.and_false, Bool.false_and, Bool.and_self, Bool.true_and]))
        have k2 : (((n : Nat) : Int) == 0) = false := by rw [beq_eq_false_iff_ne]; omega
        clear h2
        go_enter Tryz.func43, Tryz.ntmps43
        go_wp2_with fail
        refine (HLV.out _ HS.out).mono ?_
        rintro e w2 ⟨rfl, hb2⟩
        have HB2 := hid (HB.out.trans hb2)
        have HN2 := hid (hb2.has HN.out)
        clear hb2
        have c1 : w2.cell? ⟨w.heap.size, 1, none⟩ = some _ := HN2.out.cell 1
        have c2 : w2.cell? ⟨w.heap.size, 2, none⟩ = some _ := HN2.out.cell 2
        have c3 : w2.cell? ⟨w.heap.size, 3, none⟩ = some _ := HN2.out.cell 3
        have c4 : w2.cell? ⟨w.heap.size, 4, none⟩ = some _ := HN2.out.cell 4
        go_wp2
        go_returns
        exact ⟨by rw [HF.out]; rfl, HB2.out⟩
    · have HF := hid (HD.out.trans (show _ = false by simp only [decide_eq_true h0, nil_dec nm h1, Bool.and_false, Bool.false_and, Bool.and_self, Bool.true_and]))
      have k1 := toList_ne nm h1
      clear h1
      go_enter Tryz.func43, Tryz.ntmps43
      go_wp2_with fail
      refine (HLV.out _ HS.out).mono ?_
      rintro e w2 ⟨rfl, hb2⟩
      have HB2 := hid (HB.out.trans hb2)
      have HN2 := hid (hb2.has HN.out)
      clear hb2
      have c1 : w2.cell? ⟨w.heap.size, 1, none⟩ = some _ := HN2.out.cell 1
      have c2 : w2.cell? ⟨w.heap.size, 2, none⟩ = some _ := HN2.out.cell 2
      have c3 : w2.cell? ⟨w.heap.size, 3, none⟩ = some _ := HN2.out.cell 3
      have c4 : w2.cell? ⟨w.heap.size, 4, none⟩ = some _ := HN2.out.cell 4
      go_wp2
      go_returns
      exact ⟨by rw [HF.out]; rfl, HB2.out⟩
  · have HF := hid (HD.out.trans (show _ = false by simp only [decide_eq_false h0, Bool.and_false, Bool.false_and, Bool.and_self, Bool.true_and]))
    have k0 : (lv : Nat) = 0 := by omega
    subst k0
    clear h0
    go_enter Tryz.func43, Tryz.ntmps43
    go_wp2_with fail
    refine (HLV.out _ HS.out).mono ?_
    rintro e w2 ⟨rfl, hb2⟩
    have HB2 := hid (HB.out.trans hb2)
    have HN2 := hid (hb2.has HN.out)
    clear hb2
    have c1 : w2.cell? ⟨w.heap.size, 1, none⟩ = some _ := HN2.out.cell 1
    have c2 : w2.cell? ⟨w.heap.size, 2, none⟩ = some _ := HN2.out.cell 2
    have c3 : w2.cell? ⟨w.heap.size, 3, none⟩ = some _ := HN2.out.cell 3
    have c4 : w2.cell? ⟨w.heap.size, 4, none⟩ = some _ := HN2.out.cell 4
    go_wp2
    go_returns
    exact ⟨by rw [HF.out]; rfl, HB2.out⟩
end Go.Proofs.YtlilmidffcmkjaaGreatDoor

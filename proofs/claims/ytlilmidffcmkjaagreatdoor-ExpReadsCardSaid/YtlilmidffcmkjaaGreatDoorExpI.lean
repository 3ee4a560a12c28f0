/- Whether a list may be (contract of the function; the listed table holds what the program's text lays). -/
import Derived.Test.YtlilmidffcmkjaaGreatDoorExpH
import Derived.Test.YtlilmidffcmkjaaGreatDoorExpK
namespace Go.Proofs.YtlilmidffcmkjaaGreatDoor
open Go.RowKit
set_option linter.unusedVariables false
set_option linter.unusedSimpArgs false
theorem check_long {l : List ExpR} (h : ¬ l.length ≤ 400) : checkX l = 9 := by
  unfold checkX checkB
  rw [decide_eq_false h]
  rfl
theorem check_short {l : List ExpR} (h : l.length ≤ 400) : checkX l = if allGo l 0 then 0 else 9 := by
  unfold checkX checkB
  rw [decide_eq_true h]
  rfl
set_option maxRecDepth 100000 in
set_option maxHeartbeats 4000000 in
theorem check_any (a : Option Addr) (len cap : Nat) (hlen : len ≤ 9223372036854775807) (l : List ExpR) (hll : Hid (l.length = len)) (w : World) (hst : ExpAt w a l) (hS : SgnAt w) :
    Calls Tryz.prog 30 #[.slice a len cap] w fun e w' => e = .returned (.int .i64 (checkX l)) ∧ Bw w w' := by
  by_cases h4 : len ≤ 400
  · have HC := hid (check_short (l := l) (by rw [hll.out]; exact h4))
    have g4 : ¬ (400 : Int) < (len : Nat) := by omega
    have HST := hid hst
    have HS := hid hS
    clear hst hS
    go_enter Tryz.func30, Tryz.ntmps30
    go_wp2
    go_loopw [10] (fun i wr => ∃ k : Nat, k ≤ len ∧ i = .int .i64 k ∧ Hid (allGo (l.drop k) k = allGo l 0) ∧ Bw w wr) (fun i _ => len - (intOf i).toNat)
    case atStart => exact ⟨0, Nat.zero_le _, rfl, hid rfl, Bw.refl w⟩
    case round =>
      rename World => wr
      obtain ⟨k, hk, rfl, HA, hb⟩ := hrel
      have HB := hid hb
      clear hb
      by_cases hlt : k < len
      · have hkl : k < l.length := by rw [hll.out]; exact hlt
        have hk1 : (k : Int) < len := by omega
        obtain ⟨b, off, rfl, hbb, c0, c1, c2, c3, c4, hv⟩ := HST.out.below HB.out k hkl
        have hnx := allGo_next hkl
        obtain ⟨⟨o, nm, n, x, y⟩, hx⟩ : ∃ q, l[k] = q := ⟨_, rfl⟩
        rw [hx] at c0 c1 c2 c3 c4 hv hnx
        simp only at c0 c1 c2 c3 c4
        obtain ⟨v0, v1, v2, v3, v4⟩ := hv
        simp only at v0 v1 v2 v3 v4
        rw [HA.out] at hnx
        have HB1 := hid (HB.out.alloc (.cells #[.string o, .string nm, .int .u64 n, .int .i64 x, .int .i64 y] 42))
        have HN := hid (Has.new wr 42 #[.string o, .string nm, .int .u64 n, .int .i64 x, .int .i64 y])
        have HL := hid (fun W => isLeaf_any o nm n v2 x y v1 W)
        have HO := hid (fun W hW => isOperation_any o nm n v2 x y k (by omega) W hW)
        have HIT := hid (show itemB ⟨o, nm, n, x, y⟩ k = (leafB ⟨o, nm, n, x, y⟩ || operB ⟨o, nm, n, x, y⟩ k) from rfl)
        clear hx hkl hbb
        cases hlf : leafB ⟨o, nm, n, x, y⟩ with
        | true =>
          rw [hlf] at HL HIT
          have hn2 : allGo (l.drop (k + 1)) (k + 1) = allGo l 0 := by rw [hnx, HIT.out]; rfl
          have HN2 := hid hn2
          clear hnx hn2 hlf HO
          go_wp2_with fail
          refine (HL.out _).mono ?_
          rintro e w2 ⟨rfl, hb2⟩
          have HB2 := hid (HB1.out.trans hb2)
          clear hb2
          go_wp2
          exact ⟨⟨k + 1, by omega, by go_num, HN2, HB2.out⟩, by simp [intOf]; omega⟩
        | false =>
          rw [hlf] at HL HIT
          cases hop : operB ⟨o, nm, n, x, y⟩ k with
          | true =>
            rw [hop] at HO HIT
            have hn2 : allGo (l.drop (k + 1)) (k + 1) = allGo l 0 := by rw [hnx, HIT.out]; rfl
            have HN2 := hid hn2
            clear hnx hn2 hlf hop
            go_wp2_with fail
            refine (HL.out _).mono ?_
            rintro e w2 ⟨rfl, hb2⟩
            have HB2 := hid (HB1.out.trans hb2)
            have HN3 := hid (hb2.has HN.out)
            clear hb2
            have d0 : w2.cell? ⟨wr.heap.size, 0, none⟩ = some _ := HN3.out.cell 0
            have d1 : w2.cell? ⟨wr.heap.size, 1, none⟩ = some _ := HN3.out.cell 1
            have d2 : w2.cell? ⟨wr.heap.size, 2, none⟩ = some _ := HN3.out.cell 2
            have d3 : w2.cell? ⟨wr.heap.size, 3, none⟩ = some _ := HN3.out.cell 3
            have d4 : w2.cell? ⟨wr.heap.size, 4, none⟩ = some _ := HN3.out.cell 4
            go_wp2_with fail
            refine (HO.out _ (HS.out.bw HB2.out)).mono ?_
            rintro e w3 ⟨rfl, hb3⟩
            have HB3 := hid (HB2.out.trans hb3)
            clear hb3 d0 d1 d2 d3 d4
            go_wp2
            exact ⟨⟨k + 1, by omega, by go_num, HN2, HB3.out⟩, by simp [intOf]; omega⟩
          | false =>
            rw [hop] at HO HIT
            have hn2 : checkX l = 9 := by rw [HC.out, hnx, HIT.out]; rfl
            have HN2 := hid hn2
            clear hnx hn2 hlf hop
            go_wp2_with fail
            refine (HL.out _).mono ?_
            rintro e w2 ⟨rfl, hb2⟩
            have HB2 := hid (HB1.out.trans hb2)
            have HN3 := hid (hb2.has HN.out)
            clear hb2
            have d0 : w2.cell? ⟨wr.heap.size, 0, none⟩ = some _ := HN3.out.cell 0
            have d1 : w2.cell? ⟨wr.heap.size, 1, none⟩ = some _ := HN3.out.cell 1
            have d2 : w2.cell? ⟨wr.heap.size, 2, none⟩ = some _ := HN3.out.cell 2
            have d3 : w2.cell? ⟨wr.heap.size, 3, none⟩ = some _ := HN3.out.cell 3
            have d4 : w2.cell? ⟨wr.heap.size, 4, none⟩ = some _ := HN3.out.cell 4
            go_wp2_with fail
            refine (HO.out _ (HS.out.bw HB2.out)).mono ?_
            rintro e w3 ⟨rfl, hb3⟩
            have HB3 := hid (HB2.out.trans hb3)
            clear hb3 d0 d1 d2 d3 d4
            go_wp2
            go_returns
            exact ⟨by rw [HN2.out]; rfl, HB3.out⟩
      · obtain rfl : k = len := by omega
        have hE : checkX l = 0 := by
          rw [HC.out, ← HA.out, List.drop_of_length_le (by rw [hll.out]; exact Nat.le_refl _)]
          rfl
        have HE := hid hE
        clear hE
        go_wp2
        go_returns
        exact ⟨by rw [HE.out]; rfl, HB.out⟩
  · have HC := hid (check_long (l := l) (by rw [hll.out]; exact h4))
    have g4 : (400 : Int) < (len : Nat) := by omega
    clear hst hS h4
    go_enter Tryz.func30, Tryz.ntmps30
    go_wp2
    go_returns
    exact ⟨by rw [HC.out]; rfl, Bw.refl w⟩
end Go.Proofs.YtlilmidffcmkjaaGreatDoor

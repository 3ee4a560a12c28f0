/- The document's Set: Covered (contract of the function). -/
import Derived.Test.YtemgdnloabefjaaRegG
namespace Go.Proofs.Ytemgdnloabefjaa
open Go.RowKit Go.Conc
set_option linter.unusedVariables false
/-- One span's part, in the code's own arithmetic. -/
def covStep (lo hi : Int) (m : Int) (p : PartR) : Int := if (if (p.hi : Int) < hi then (p.hi : Int) else hi) ≤ (if lo < (p.lo : Int) then (p.lo : Int) else lo) then m else wrap64 (wrap64 (m + if (p.hi : Int) < hi then (p.hi : Int) else hi) - if lo < (p.lo : Int) then (p.lo : Int) else lo)
def covW (L : List PartR) (lo hi : Int) : Int := L.foldl (covStep lo hi) 0
def rcovV (L : List PartR) (lo hi : Int) : Int := if spB lo hi then covW L lo hi else 0
theorem cov_next {L : List PartR} {k : Nat} (hk : k < L.length) (lo hi : Int) : covW (L.take (k + 1)) lo hi = covStep lo hi (covW (L.take k) lo hi) L[k] := by
  rw [List.take_succ_eq_append_getElem hk]
  unfold covW
  rw [List.foldl_append]
  rfl
theorem cov_all {L : List PartR} {n : Nat} (hn : L.length = n) (lo hi : Int) : covW (L.take n) lo hi = covW L lo hi := by rw [List.take_of_length_le (by omega)]
set_option maxRecDepth 100000 in
set_option maxHeartbeats 4000000 in
theorem rcov_any (g : Nat) (L : List PartR) (h9 : L.length ≤ 1000000000) (lo hi : Int) (w : World) (hs : RefAt w g L) :
    Calls Try.prog 21 #[.pointer (some ⟨g, 0, none⟩), .int .i64 lo, .int .i64 hi] w fun e w' => e = .returned (.int .i64 (rcovV L lo hi)) ∧ ∃ z, w' = w.drewN z := by
  have HS := hid (fun W => rspan_any lo hi W)
  obtain ⟨rl, rx, hh, hl, hx⟩ := hs
  obtain ⟨ro, rc, rfl⟩ := own_slice hl
  obtain ⟨n, hn⟩ : ∃ n, L.length = n := ⟨_, rfl⟩
  rw [hn] at hl hh h9
  have hc : w.cell? ⟨g, 0, none⟩ = some (.slice ro n rc) := hh.cell 0
  have HN := hid hn
  have HL := hid hl
  clear hn hl hx hh
  by_cases hsp : spB lo hi = true
  · rw [hsp] at HS
    have e0 : rcovV L lo hi = covW L lo hi := if_pos hsp
    rw [e0]
    clear e0 hsp
    go_enter Try.func21, Try.ntmps21
    go_wp2
    go_loopw [7, 8] (fun m i wr => ∃ k : Nat, k ≤ n ∧ m = .int .i64 (covW (L.take k) lo hi) ∧ i = .int .i64 k ∧ ∃ z, wr = w.drewN z) (fun _ i _ => n - (intOf i).toNat)
    case atStart => exact ⟨0, Nat.zero_le _, rfl, rfl, 0, rfl⟩
    case round =>
      obtain ⟨k, hk, rfl, rfl, z, rfl⟩ := hrel
      have hc1 : (w.drewN z).cell? ⟨g, 0, none⟩ = some (.slice ro n rc) := by simpa using hc
      by_cases hlt : k < n
      · obtain ⟨b, cap, hb⟩ := own_some HL.out (by omega)
        obtain ⟨rfl, rfl⟩ : ro = some ⟨b, 0, none⟩ ∧ rc = cap := by simpa using hb
        clear hb
        have hkl : k < L.length := by have := HN.out; omega
        obtain ⟨d0, d1⟩ := ref_span HL.out HN.out hlt
        have HQ := hid (cov_next hkl lo hi)
        generalize covW (L.take k) lo hi = m at *
        generalize L[k] = q at *
        have p0 : (w.drewN z).cell? ⟨b, k * 2, none⟩ = some (.int .i64 q.lo) := by simpa using d0
        have p1 : (w.drewN z).cell? ⟨b, k * 2 + 1, none⟩ = some (.int .i64 q.hi) := by simpa using d1
        clear hkl d0 d1
        have hk1 : (k : Int) < n := by omega
        go_wp2_with fail
        refine (HS.out _).mono ?_
        rintro e w1 ⟨rfl, rfl⟩
        go_wp2
        · rename_i hif
          refine ⟨⟨k + 1, by omega, ?_, by go_num, z, rfl⟩, by simp [intOf]; omega⟩
          have e2 := HQ.out
          unfold covStep at e2
          rw [if_neg (by omega)] at e2
          rw [e2]
        · rename_i hif
          refine ⟨⟨k + 1, by omega, ?_, by go_num, z, rfl⟩, by simp [intOf]; omega⟩
          have e2 := HQ.out
          unfold covStep at e2
          rw [if_pos hif] at e2
          rw [e2]
      · obtain rfl : k = n := by omega
        have E1 := hid (cov_all HN.out lo hi)
        go_wp2
        go_returns
        exact ⟨by rw [← E1.out]; rfl, z, rfl⟩
  · have hsf := eq_false_of_ne_true hsp
    rw [hsf] at HS
    have e0 : rcovV L lo hi = 0 := if_neg hsp
    rw [e0]
    clear e0 hsp hsf
    go_enter Try.func21, Try.ntmps21
    go_wp2
    go_loopw [7, 8] (fun m i wr => m = .int .i64 0 ∧ i = .int .i64 0 ∧ ∃ z, wr = w.drewN z) (fun _ i _ => 0)
    case atStart => exact ⟨rfl, rfl, 0, rfl⟩
    case round =>
      obtain ⟨rfl, rfl, z, rfl⟩ := hrel
      have hc1 : (w.drewN z).cell? ⟨g, 0, none⟩ = some (.slice ro n rc) := by simpa using hc
      by_cases hlt : 0 < n
      · have hk1 : (0 : Int) < n := by omega
        go_wp2_with fail
        refine (HS.out _).mono ?_
        rintro e w1 ⟨rfl, rfl⟩
        go_wp2
        go_returns
        exact ⟨rfl, z, rfl⟩
      · have hk1 : n ≤ 0 := by omega
        go_wp2
        go_returns
        exact ⟨rfl, z, rfl⟩
end Go.Proofs.Ytemgdnloabefjaa

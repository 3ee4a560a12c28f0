/- The document's Set: Find (contract of the function). -/
import Derived.Test.YtemgdnloabefjaaRegG
namespace Go.Proofs.Ytemgdnloabefjaa
open Go.RowKit Go.Conc
set_option linter.unusedVariables false
def inB (a : Int) (p : PartR) : Bool := decide ((p.lo : Int) ≤ a) && decide (a < (p.hi : Int))
def rfindV (L : List PartR) (a : Int) : Int := match L.find? (inB a) with | some p => p.x | none => 0
def rfindB (L : List PartR) (a : Int) : Bool := (L.find? (inB a)).isSome
theorem find_all {L : List PartR} {f : PartR → Bool} {n : Nat} (h : (L.take n).any f = false) (hn : L.length = n) : L.find? f = none := by
  have := any_all h hn
  rw [List.find?_eq_none]
  intro p hp hf
  rw [List.any_eq_false] at this
  exact this p hp hf
theorem find_hit {L : List PartR} {f : PartR → Bool} {k : Nat} (hk : k < L.length) (h0 : (L.take k).any f = false) (h : f L[k] = true) : L.find? f = some L[k] := by
  have e : L = L.take k ++ L[k] :: L.drop (k + 1) := by rw [List.getElem_cons_drop, List.take_append_drop]
  have hn : (L.take k).find? f = none := by
    rw [List.find?_eq_none]
    intro p hp hf
    rw [List.any_eq_false] at h0
    exact h0 p hp hf
  generalize L[k] = q at *
  rw [e, List.find?_append, hn, List.find?_cons_of_pos h]
  rfl
set_option maxRecDepth 100000 in
set_option maxHeartbeats 4000000 in
theorem rfind_any (g : Nat) (L : List PartR) (h9 : L.length ≤ 1000000000) (a : Int) (w : World) (hs : RefAt w g L) :
    Calls Try.prog 27 #[.pointer (some ⟨g, 0, none⟩), .int .i64 a] w fun e w' => e = .returned (.tuple #[.int .i64 (rfindV L a), .bool (rfindB L a)]) ∧ ∃ z, w' = w.drewN z := by
  obtain ⟨rl, rx, hh, hl, hx⟩ := hs
  obtain ⟨ro, rc, rfl⟩ := own_slice hl
  obtain ⟨xo, xc, rfl⟩ := own_slice hx
  obtain ⟨n, hn⟩ : ∃ n, L.length = n := ⟨_, rfl⟩
  rw [hn] at hl hh h9 hx
  have hc : w.cell? ⟨g, 0, none⟩ = some (.slice ro n rc) := hh.cell 0
  have hcx : w.cell? ⟨g, 1, none⟩ = some (.slice xo n xc) := hh.cell 1
  have HN := hid hn
  have HL := hid hl
  have HX := hid hx
  clear hn hl hx hh
  go_enter Try.func27, Try.ntmps27
  go_wp2
  go_loopw [6] (fun i wr => ∃ k : Nat, k ≤ n ∧ i = .int .i64 k ∧ Hid ((L.take k).any (inB a) = false) ∧ ∃ z, wr = w.drewN z) (fun i _ => n - (intOf i).toNat)
  case atStart => exact ⟨0, Nat.zero_le _, rfl, hid rfl, 0, rfl⟩
  case round =>
    obtain ⟨k, hk, rfl, HA, z, rfl⟩ := hrel
    have hc1 : (w.drewN z).cell? ⟨g, 0, none⟩ = some (.slice ro n rc) := by simpa using hc
    have hc2 : (w.drewN z).cell? ⟨g, 1, none⟩ = some (.slice xo n xc) := by simpa using hcx
    by_cases hlt : k < n
    · obtain ⟨b, cap, hb⟩ := own_some HL.out (by omega)
      obtain ⟨rfl, rfl⟩ : ro = some ⟨b, 0, none⟩ ∧ rc = cap := by simpa using hb
      obtain ⟨bx, capx, hbx⟩ := own_some HX.out (by omega)
      obtain ⟨rfl, rfl⟩ : xo = some ⟨bx, 0, none⟩ ∧ xc = capx := by simpa using hbx
      clear hb hbx
      have hkl : k < L.length := by have := HN.out; omega
      obtain ⟨d0, d1⟩ := ref_span HL.out HN.out hlt
      have d2 := ref_int HX.out HN.out hlt
      have HQ := hid (fun (h : inB a L[k] = true) => find_hit hkl HA.out h)
      have HQ2 := hid (fun (h : inB a L[k] = false) => any_next hkl HA.out h)
      have HE := hid (show inB a L[k] = (decide (((L[k].lo : Nat) : Int) ≤ a) && decide (a < ((L[k].hi : Nat) : Int))) from rfl)
      generalize L[k] = q at *
      have p0 : (w.drewN z).cell? ⟨b, k * 2, none⟩ = some (.int .i64 q.lo) := by simpa using d0
      have p1 : (w.drewN z).cell? ⟨b, k * 2 + 1, none⟩ = some (.int .i64 q.hi) := by simpa using d1
      have p2 : (w.drewN z).cell? ⟨bx, k, none⟩ = some (.int .i64 q.x) := by simpa using d2
      clear hkl d0 d1 d2
      have hk1 : (k : Int) < n := by omega
      by_cases a1 : (q.lo : Int) ≤ a
      · by_cases a2 : a < (q.hi : Int)
        · have E1 := hid (HQ.out (by rw [HE.out, decide_eq_true a1, decide_eq_true a2]; rfl))
          go_wp2
          go_returns
          exact ⟨by unfold rfindV rfindB; rw [E1.out]; rfl, _, rfl⟩
        · have b2 := decide_eq_false a2
          have HN2 := hid (HQ2.out (by rw [HE.out, b2, Bool.and_false]))
          go_wp2
          go_roundw
          case rel => exact ⟨k + 1, by omega, by go_num, HN2, z, rfl⟩
          case measure => simp [intOf]; omega
      · have b1 := decide_eq_false a1
        have HN2 := hid (HQ2.out (by rw [HE.out, b1, Bool.false_and]))
        go_wp2
        go_roundw
        case rel => exact ⟨k + 1, by omega, by go_num, HN2, z, rfl⟩
        case measure => simp [intOf]; omega
    · obtain rfl : k = n := by omega
      have E1 := hid (find_all HA.out HN.out)
      go_wp2
      go_returns
      exact ⟨by unfold rfindV rfindB; rw [E1.out]; rfl, z, rfl⟩
end Go.Proofs.Ytemgdnloabefjaa

/- The document's Set: Span, Clash, Find (contracts of the functions). -/
import Derived.Test.YtemgdnloabefjaaRegB
namespace Go.Proofs.Ytemgdnloabefjaa
open Go.RowKit Go.Conc
set_option linter.unusedVariables false
set_option maxRecDepth 100000 in
theorem rspan_any (lo hi : Int) (w : World) :
    Calls Try.prog 51 #[.int .i64 lo, .int .i64 hi] w fun e w' => e = .returned (.bool (spB lo hi)) ∧ w' = w := by
  by_cases h1 : 0 ≤ lo
  · by_cases h2 : lo < hi
    · have hb : spB lo hi = decide (hi ≤ 4611686018427387904) := by unfold spB; simp [h1, h2]
      rw [hb]
      clear hb
      go_enter Try.func51, Try.ntmps51
      go_wp2
      go_ret
      exact ⟨rfl, rfl⟩
    · have hb : spB lo hi = false := decide_eq_false (by omega)
      rw [hb]
      clear hb
      go_enter Try.func51, Try.ntmps51
      go_wp2
      go_ret
      exact ⟨rfl, rfl⟩
  · have hb : spB lo hi = false := decide_eq_false (by omega)
    rw [hb]
    clear hb
    go_enter Try.func51, Try.ntmps51
    go_wp2
    go_ret
    exact ⟨rfl, rfl⟩
def refSpans (L : List PartR) : List Value := spanCells (L.map fun p => (p.lo, p.hi))
def refInts (L : List PartR) : List Value := L.map fun p => .int .i64 p.x
/-- The document's set in memory. -/
def RefAt (w : World) (g : Nat) (L : List PartR) : Prop :=
  ∃ rl rx, Has w g 28 #[rl, rx] ∧ w.ownsRow 0 31 2 rl L.length (refSpans L) ∧ w.ownsRow 0 3 1 rx L.length (refInts L)
/-- A row whose length is not 0 has a block of its own. -/
theorem own_some {w : World} {e : TypeId} {size n : Nat} {v : Value} {xs : List Value} (h : w.ownsRow 0 e size v n xs) (hn : 0 < n) : ∃ b cap, v = .slice (some ⟨b, 0, none⟩) n cap := by
  rcases h.2 with ⟨_, h0, _⟩ | ⟨g', cap, cur, rfl, _, hh, _⟩
  · omega
  · exact ⟨g', cap, rfl⟩
def hitB (lo hi : Int) (p : PartR) : Bool := decide (lo < (p.hi : Int)) && decide ((p.lo : Int) < hi)
def rclashB (L : List PartR) (lo hi : Int) : Bool := spB lo hi && L.any (hitB lo hi)
theorem refSpans_len (L : List PartR) : (refSpans L).length = L.length * 2 := by
  unfold refSpans
  induction L with
  | nil => rfl
  | cons p L ih => simp only [List.map_cons, spanCells, List.flatMap_cons, List.length_append, List.length_cons, List.length_nil] at ih ⊢; omega
theorem ref_span {w : World} {b n cap : Nat} {L : List PartR} (h : w.ownsRow 0 31 2 (.slice (some ⟨b, 0, none⟩) n cap) n (refSpans L)) (hn : L.length = n) {i : Nat} (hi : i < n) :
    w.cell? ⟨b, i * 2, none⟩ = some (.int .i64 ((L[i]'(by omega)).lo : Nat)) ∧ w.cell? ⟨b, i * 2 + 1, none⟩ = some (.int .i64 ((L[i]'(by omega)).hi : Nat)) := by
  have hc := h.cells (g := b) rfl
  have hg := spanCells_get (L.map fun p => (p.lo, p.hi)) i (by rw [List.length_map]; omega)
  rw [List.getElem_map] at hg
  have key : ∀ o u, (refSpans L)[o]? = some u → w.cell? ⟨b, o, none⟩ = some u := fun o u hu => by
    have := hc o u hu
    have ea : (Addr.add ⟨b, 0, none⟩ o) = ⟨b, o, none⟩ := by
      unfold Addr.add
      by_cases hz : o = 0
      · simp [hz]
      · simp; omega
    rwa [ea] at this
  exact ⟨key _ _ hg.1, key _ _ hg.2⟩
theorem ref_int {w : World} {b n cap : Nat} {L : List PartR} (h : w.ownsRow 0 3 1 (.slice (some ⟨b, 0, none⟩) n cap) n (refInts L)) (hn : L.length = n) {i : Nat} (hi : i < n) :
    w.cell? ⟨b, i, none⟩ = some (.int .i64 (L[i]'(by omega)).x) := by
  have := h.cells (g := b) rfl i (.int .i64 (L[i]'(by omega)).x) (by unfold refInts; rw [List.getElem?_map, List.getElem?_eq_getElem (by omega)]; rfl)
  have ea : (Addr.add ⟨b, 0, none⟩ i) = ⟨b, i, none⟩ := by
    unfold Addr.add
    by_cases hz : i = 0
    · simp [hz]
    · simp; omega
  rwa [ea] at this
theorem any_all {L : List PartR} {f : PartR → Bool} {n : Nat} (h : (L.take n).any f = false) (hn : L.length = n) : L.any f = false := by
  rwa [List.take_of_length_le (by omega)] at h
theorem any_hit {L : List PartR} {f : PartR → Bool} {k : Nat} (hk : k < L.length) (h : f L[k] = true) : L.any f = true := List.any_eq_true.mpr ⟨L[k], List.getElem_mem hk, h⟩
theorem any_next {L : List PartR} {f : PartR → Bool} {k : Nat} (hk : k < L.length) (h0 : (L.take k).any f = false) (h : f L[k] = false) : (L.take (k + 1)).any f = false := by
  rw [List.take_succ_eq_append_getElem hk, List.any_append, h0]
  simp [h]
set_option maxRecDepth 100000 in
set_option maxHeartbeats 4000000 in
theorem rclash_any (g : Nat) (L : List PartR) (h9 : L.length ≤ 1000000000) (lo hi : Int) (w : World) (hs : RefAt w g L) :
    Calls Try.prog 16 #[.pointer (some ⟨g, 0, none⟩), .int .i64 lo, .int .i64 hi] w fun e w' => e = .returned (.bool (rclashB L lo hi)) ∧ ∃ z, w' = w.drewN z := by
  have HS := hid (fun W => rspan_any lo hi W)
  obtain ⟨rl, rx, hh, hl, hx⟩ := hs
  obtain ⟨ro, rc, rfl⟩ := own_slice hl
  obtain ⟨n, hn⟩ : ∃ n, L.length = n := ⟨_, rfl⟩
  rw [hn] at hl hh h9
  have hc : w.cell? ⟨g, 0, none⟩ = some (.slice ro n rc) := hh.cell 0
  have HN := hid hn
  have HL := hid hl
  clear hn hl hx hh
  by_cases hsp : spB lo hi = true
  · rw [hsp] at HS
    have e0 : rclashB L lo hi = L.any (hitB lo hi) := by unfold rclashB; rw [hsp]; rfl
    rw [e0]
    clear e0 hsp
    go_enter Try.func16, Try.ntmps16
    go_wp2
    go_loopw [7] (fun i wr => ∃ k : Nat, k ≤ n ∧ i = .int .i64 k ∧ Hid ((L.take k).any (hitB lo hi) = false) ∧ ∃ z, wr = w.drewN z) (fun i _ => n - (intOf i).toNat)
    case atStart => exact ⟨0, Nat.zero_le _, rfl, hid rfl, 0, rfl⟩
    case round =>
      obtain ⟨k, hk, rfl, HA, z, rfl⟩ := hrel
      have hc1 : (w.drewN z).cell? ⟨g, 0, none⟩ = some (.slice ro n rc) := by simpa using hc
      by_cases hlt : k < n
      · obtain ⟨b, cap, hb⟩ := own_some HL.out (by omega)
        obtain ⟨rfl, rfl⟩ : ro = some ⟨b, 0, none⟩ ∧ rc = cap := by simpa using hb
        clear hb
        have hkl : k < L.length := by have := HN.out; omega
        obtain ⟨d0, d1⟩ := ref_span HL.out HN.out hlt
        have HQ := hid (fun (h : hitB lo hi L[k] = true) => any_hit hkl h)
        have HQ2 := hid (fun (h : hitB lo hi L[k] = false) => any_next hkl HA.out h)
        have HE := hid (show hitB lo hi L[k] = (decide (lo < ((L[k].hi : Nat) : Int)) && decide (((L[k].lo : Nat) : Int) < hi)) from rfl)
        generalize L[k] = q at *
        have p0 : (w.drewN z).cell? ⟨b, k * 2, none⟩ = some (.int .i64 q.lo) := by simpa using d0
        have p1 : (w.drewN z).cell? ⟨b, k * 2 + 1, none⟩ = some (.int .i64 q.hi) := by simpa using d1
        clear hkl d0 d1
        have hk1 : (k : Int) < n := by omega
        by_cases a1 : lo < (q.hi : Int)
        · by_cases a2 : (q.lo : Int) < hi
          · have E1 := hid (HQ.out (by rw [HE.out, decide_eq_true a1, decide_eq_true a2]; rfl))
            go_wp2_with fail
            refine (HS.out _).mono ?_
            rintro e w1 ⟨rfl, rfl⟩
            go_wp2
            go_returns
            exact ⟨by rw [E1.out]; rfl, _, rfl⟩
          · have b2 := decide_eq_false a2
            have HN2 := hid (HQ2.out (by rw [HE.out, b2, Bool.and_false]))
            go_wp2_with fail
            refine (HS.out _).mono ?_
            rintro e w1 ⟨rfl, rfl⟩
            go_wp2
            go_roundw
            case rel => exact ⟨k + 1, by omega, by go_num, HN2, z, rfl⟩
            case measure => simp [intOf]; omega
        · have b1 := decide_eq_false a1
          have HN2 := hid (HQ2.out (by rw [HE.out, b1, Bool.false_and]))
          go_wp2_with fail
          refine (HS.out _).mono ?_
          rintro e w1 ⟨rfl, rfl⟩
          go_wp2
          go_roundw
          case rel => exact ⟨k + 1, by omega, by go_num, HN2, z, rfl⟩
          case measure => simp [intOf]; omega
      · obtain rfl : k = n := by omega
        have E1 := hid (any_all HA.out HN.out)
        go_wp2
        go_returns
        exact ⟨by rw [E1.out]; rfl, z, rfl⟩
  · have hsf := eq_false_of_ne_true hsp
    rw [hsf] at HS
    have e0 : rclashB L lo hi = false := by unfold rclashB; rw [hsf]; rfl
    rw [e0]
    clear e0 hsp hsf
    go_enter Try.func16, Try.ntmps16
    go_wp2
    go_loopw [7] (fun i wr => ∃ k : Nat, k ≤ n ∧ i = .int .i64 k ∧ ∃ z, wr = w.drewN z) (fun i _ => n - (intOf i).toNat)
    case atStart => exact ⟨0, Nat.zero_le _, rfl, 0, rfl⟩
    case round =>
      obtain ⟨k, hk, rfl, z, rfl⟩ := hrel
      have hc1 : (w.drewN z).cell? ⟨g, 0, none⟩ = some (.slice ro n rc) := by simpa using hc
      by_cases hlt : k < n
      · have hk1 : (k : Int) < n := by omega
        go_wp2_with fail
        refine (HS.out _).mono ?_
        rintro e w1 ⟨rfl, rfl⟩
        go_wp2
        go_roundw
        case rel => exact ⟨k + 1, by omega, by go_num, z, rfl⟩
        case measure => simp [intOf]; omega
      · obtain rfl : k = n := by omega
        go_wp2
        go_returns
        exact ⟨rfl, z, rfl⟩
end Go.Proofs.Ytemgdnloabefjaa

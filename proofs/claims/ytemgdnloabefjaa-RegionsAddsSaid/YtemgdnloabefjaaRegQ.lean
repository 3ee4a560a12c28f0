/- The law's own same: a set is the document's (contract of the function). -/
import Derived.Test.YtemgdnloabefjaaRegX
import Derived.Deep.RegionHeld3
import Derived.Deep.QuietTactic
import Derived.BigQuiet
namespace Go.Proofs.Ytemgdnloabefjaa
open Go.RowKit Go.Conc
set_option linter.unusedVariables false
set_option maxRecDepth 100000 in
set_option maxHeartbeats 4000000 in
theorem sets_same (g rg : Nat) (L : List PartR) (h9 : L.length ≤ 1000) (w : World) (hs : SetAt w g L) (hr : RefAt w rg L) :
    Calls Try.prog 19 #[.pointer (some ⟨g, 0, none⟩), .pointer (some ⟨rg, 0, none⟩)] w fun e w' => e = .returned (.bool true) ∧ Bw w w' := by
  have HAT := hid (fun (i : Int) (hi : i ≤ 1000000000) (W : World) (hb : Bw w W) => at_any g L (by omega) i hi W (hs.bw hb))
  have HLEN := hid (fun (W : World) (hb : Bw w W) => setlen_any g L (by omega) W (hs.bw hb))
  obtain ⟨rl, rx, hh, hl, hx⟩ := hr
  obtain ⟨ro, rc, rfl⟩ := own_slice hl
  obtain ⟨xo, xc, rfl⟩ := own_slice hx
  obtain ⟨n, hn⟩ : ∃ n, L.length = n := ⟨_, rfl⟩
  rw [hn] at hl hh h9 hx HLEN
  have HN := hid hn
  have HL := hid hl
  have HX := hid hx
  have HH := hid hh
  clear hn hl hx hh hs
  go_enter Try.func19, Try.ntmps19
  go_wp2
  go_loopw [5] (fun i wr => ∃ k : Nat, k ≤ n + 2 ∧ i = .int .i64 ((k : Int) - 1) ∧ Bw w wr) (fun i _ => n + 2 - (intOf i + 1).toNat)
  case atStart => exact ⟨0, by omega, rfl, Bw.refl w⟩
  case round =>
    rename World => wr
    obtain ⟨k, hk, rfl, hb⟩ := hrel
    have HB := hid hb
    have c0 : wr.cell? ⟨rg, 0, none⟩ = some (.slice ro n rc) := (hb.has HH.out).cell 0
    clear hb
    have hor : k = 0 ∨ (∃ j, k = j + 1 ∧ j < n) ∨ k = n + 1 ∨ k = n + 2 := by
      rcases Nat.eq_zero_or_pos k with h | h
      · exact .inl h
      · rcases Nat.lt_or_ge k (n + 1) with h2 | h2
        · exact .inr (.inl ⟨k - 1, by omega, by omega⟩)
        · omega
    rcases hor with rfl | ⟨j, rfl, hj⟩ | rfl | rfl
    · have e0 : ((0 : Nat) : Int) - 1 = -1 := rfl
      rw [e0]
      have H1 := hid (HAT.out (-1) (by omega) wr HB.out)
      rw [show atS L (-1) = .agg #[.int .i64 0, .int .i64 0] from dif_neg (fun h => absurd h.1 (by decide)), show atX L (-1) = 0 from dif_neg (fun h => absurd h.1 (by decide)), show atB L (-1) = false from decide_eq_false (fun h => absurd h.1 (by decide))] at H1
      have hm1 : (-1 : Int) ≤ n := by omega
      go_wp2_with fail
      refine H1.out.mono ?_
      rintro e w2 ⟨rfl, hb⟩
      have HB2 := hid (HB.out.trans hb)
      clear hb
      go_wp2
      exact ⟨⟨1, by omega, rfl, HB2.out.alloc _⟩, by simp [intOf]⟩
    · have e0 : ((j + 1 : Nat) : Int) - 1 = j := by omega
      rw [e0]
      clear e0
      have hkl : j < L.length := by have := HN.out; omega
      have H1 := hid (HAT.out j (by omega) wr HB.out)
      have h0j : (0 : Int) ≤ j := by omega
      have e1 : atS L (j : Nat) = .agg #[.int .i64 (L[j]'hkl).lo, .int .i64 (L[j]'hkl).hi] := dif_pos ⟨h0j, hkl⟩
      have e2 : atX L (j : Nat) = (L[j]'hkl).x := dif_pos ⟨h0j, hkl⟩
      have e3 : atB L (j : Nat) = true := decide_eq_true ⟨h0j, hkl⟩
      rw [e1, e2, e3] at H1
      clear e1 e2 e3
      obtain ⟨b, cap, hb⟩ := own_some HL.out (by omega)
      obtain ⟨rfl, rfl⟩ : ro = some ⟨b, 0, none⟩ ∧ rc = cap := by simpa using hb
      obtain ⟨b2, cap2, hb2⟩ := own_some HX.out (by omega)
      obtain ⟨rfl, rfl⟩ : xo = some ⟨b2, 0, none⟩ ∧ xc = cap2 := by simpa using hb2
      clear hb hb2
      obtain ⟨q0, q1⟩ := ref_span HL.out HN.out hj
      have q2 := ref_int HX.out HN.out hj
      generalize L[j] = q at *
      have HQ0 := hid q0
      have HQ1 := hid q1
      have HQ2 := hid q2
      clear q0 q1 q2 hkl
      have hj1 : (j : Int) < n := by omega
      have hj2 : ¬ ((j : Int) = n) := by omega
      have hj3 : ¬ ((j : Int) < 0) := by omega
      have hj4 : (j : Int) ≤ n := by omega
      have hj5 : decide ((j : Int) < 0) = false := decide_eq_false (by omega)
      have hj6 : ((j : Int) == (n : Int)) = false := beq_eq_false_iff_ne.2 (by omega)
      have hj7 : (j == n) = false := by simpa using (show ¬ j = n by omega)
      go_wp2_with fail
      refine H1.out.mono ?_
      rintro e w2 ⟨rfl, hb⟩
      have HB2 := hid ((HB.out.trans hb).alloc (.cells #[.int .i64 q.lo, .int .i64 q.hi] 31))
      have HX2 := hid (Has.new w2 31 #[.int .i64 q.lo, .int .i64 q.hi])
      have c1 : (w2.alloc (.cells #[.int .i64 q.lo, .int .i64 q.hi] 31)).cell? ⟨rg, 0, none⟩ = some (.slice (some ⟨b, 0, none⟩) n rc) := (HB2.out.has HH.out).cell 0
      clear hb
      go_wp2_with fail
      generalize hw3 : w2.alloc (.cells #[.int .i64 q.lo, .int .i64 q.hi] 31) = W3 at *
      obtain ⟨bx, hbx⟩ : ∃ bx, w2.heap.size = bx := ⟨_, rfl⟩
      rw [hbx] at HX2 ⊢
      have d0 : W3.cell? ⟨bx, 0, none⟩ = some (.int .i64 q.lo) := HX2.out.cell 0
      have d1 : W3.cell? ⟨bx, 1, none⟩ = some (.int .i64 q.hi) := HX2.out.cell 1
      have d2 := (HB2.out.has HH.out).cell 0
      have d3 := (HB2.out.has HH.out).cell 1
      have d4 := HB2.out.cell HQ0.out
      have d5 := HB2.out.cell HQ1.out
      have d6 := HB2.out.cell HQ2.out
      clear hbx hw3 c1
      go_wp2_with fail
      go_quiet (fail)
      go_wp2
      exact ⟨⟨j + 2, by omega, by go_num, HB2.out.drewN nq⟩, by simp [intOf]; omega⟩
    · have e0 : ((n + 1 : Nat) : Int) - 1 = n := by omega
      rw [e0]
      clear e0
      have H1 := hid (HAT.out n (by omega) wr HB.out)
      have hnl : ¬ n < L.length := by have := HN.out; omega
      rw [show atS L (n : Nat) = .agg #[.int .i64 0, .int .i64 0] from dif_neg (fun h => hnl h.2), show atX L (n : Nat) = 0 from dif_neg (fun h => hnl h.2), show atB L (n : Nat) = false from decide_eq_false (fun h => hnl h.2)] at H1
      clear hnl
      go_wp2_with fail
      refine H1.out.mono ?_
      rintro e w2 ⟨rfl, hb⟩
      have HB2 := hid (HB.out.trans hb)
      have c1 : w2.cell? ⟨rg, 0, none⟩ = some (.slice ro n rc) := (HB2.out.has HH.out).cell 0
      have c2 : (w2.alloc (.cells #[.int .i64 0, .int .i64 0] 31)).cell? ⟨rg, 0, none⟩ = some (.slice ro n rc) := ((HB2.out.alloc _).has HH.out).cell 0
      clear hb
      go_wp2
      exact ⟨⟨n + 2, by omega, by go_num, HB2.out.alloc _⟩, by simp [intOf]; omega⟩
    · have e0 : ((n + 2 : Nat) : Int) - 1 = (n : Int) + 1 := by omega
      rw [e0]
      clear e0
      have hn1 : ¬ ((n : Int) + 1 ≤ n) := by omega
      go_wp2_with fail
      have p0 : wr.drew.cell? ⟨rg, 0, none⟩ = some (.slice ro n rc) := c0
      have HB1 : Hid (Bw w wr.drew) := hid (HB.out.drewN 1)
      go_region_held3 (fun w' => w'.cell? ⟨rg, 0, none⟩ = some (.slice ro n rc)) (first | exact p0 | exact q0 | assumption)
        (first
          | (go_at_call 54; refine (HLEN.out _ HB1.out).mono ?_; rintro e w2 ⟨rfl, hb2⟩; have HB2 := hid (HB1.out.trans hb2); have q0 := (HB2.out.has HH.out).cell 0; clear hb2))
      go_wp2
      go_returns
      exact ⟨rfl, HB2.out⟩
end Go.Proofs.Ytemgdnloabefjaa

/- The document's Set: Gaps (contract of the function). -/
import Derived.Test.YtemgdnloabefjaaRegI
namespace Go.Proofs.Ytemgdnloabefjaa
open Go.RowKit Go.Conc
set_option linter.unusedVariables false
/-- One span more: the gaps so far, and where the next may begin. -/
def gapStep (lo hi : Nat) (st : List (Nat × Nat) × Nat) (p : PartR) : List (Nat × Nat) × Nat :=
  if p.hi ≤ lo then st else if hi ≤ p.lo then st else if st.2 < p.lo then (st.1 ++ [(st.2, p.lo)], p.hi) else (st.1, p.hi)
def gapGo (L : List PartR) (lo hi : Nat) : List (Nat × Nat) × Nat := L.foldl (gapStep lo hi) ([], lo)
def rgaps (L : List PartR) (lo hi : Nat) : List (Nat × Nat) := if (gapGo L lo hi).2 < hi then (gapGo L lo hi).1 ++ [((gapGo L lo hi).2, hi)] else (gapGo L lo hi).1
theorem gap_next {L : List PartR} {k : Nat} (hk : k < L.length) (lo hi : Nat) : gapGo (L.take (k + 1)) lo hi = gapStep lo hi (gapGo (L.take k) lo hi) L[k] := by
  rw [List.take_succ_eq_append_getElem hk]
  unfold gapGo
  rw [List.foldl_append]
  rfl
theorem gap_all {L : List PartR} {n : Nat} (hn : L.length = n) (lo hi : Nat) : gapGo (L.take n) lo hi = gapGo L lo hi := by rw [List.take_of_length_le (by omega)]
theorem own_grownJ {w w1 w2 : World} {B : Nat} {e : TypeId} {size n : Nat} {v : Value} {xs : List Value} (h : w.ownsRow B e size v n xs) (hg : w1.grownBy w2 v.ownBlock) (hB : B ≤ w1.heap.size) : Below B w1 w2 :=
  ⟨hg.os, hg.tape, hg.output, hg.size, fun i hi => hg.block i (by omega) (fun hx => by
    rcases h.2 with ⟨hv, _⟩ | ⟨g', cp, cur, hv, hg', _⟩
    · subst hv
      cases hx
    · subst hv
      have hx2 : some i = some g' := hx
      injection hx2 with hx3
      omega)⟩
theorem own_ltJ {w : World} {B : Nat} {e : TypeId} {size n : Nat} {v : Value} {xs : List Value} (h : w.ownsRow B e size v n xs) {b : Nat} (hb : v.ownBlock = some b) : b < w.heap.size := by
  rcases h.2 with ⟨rfl, _⟩ | ⟨g', cap, cur, rfl, _, hh, _⟩
  · cases hb
  · have hb2 : some g' = some b := hb
    injection hb2 with hb3
    subst hb3
    exact (Array.getElem?_eq_some_iff.1 hh).1
theorem RefAt.bw {w w' : World} {g : Nat} {L : List PartR} (h : RefAt w g L) (hb : Bw w w') : RefAt w' g L := by
  obtain ⟨rl, rx, h1, h2, h3⟩ := h
  exact ⟨rl, rx, hb.has h1, hb.own h2, hb.own h3⟩
set_option maxRecDepth 100000 in
set_option maxHeartbeats 4000000 in
theorem rgaps_any (g : Nat) (L : List PartR) (h9 : L.length ≤ 1000000) (lo hi : Nat) (w : World) (hs : RefAt w g L) (hsp : spB lo hi = true) :
    Calls Try.prog 24 #[.pointer (some ⟨g, 0, none⟩), .int .i64 lo, .int .i64 hi] w fun e w' => ∃ v : Value, e = .returned v ∧ w'.ownsRow w.heap.size 31 2 v (rgaps L lo hi).length (spanCells (rgaps L lo hi)) ∧ Bw w w' := by
  obtain ⟨i0, hinf, hz0, hz1, hz2⟩ := info_parts spanInfo
  have HS := hid (fun W => rspan_any lo hi W)
  rw [hsp] at HS
  obtain ⟨rl, rx, hh, hl, hx⟩ := hs
  obtain ⟨ro, rc, rfl⟩ := own_slice hl
  obtain ⟨n, hn⟩ : ∃ n, L.length = n := ⟨_, rfl⟩
  rw [hn] at hl hh h9
  have HC := hid (show w.cell? ⟨g, 0, none⟩ = some (.slice ro n rc) from hh.cell 0)
  have HN := hid hn
  have HL := hid hl
  clear hn hl hx hh hsp
  go_enter Try.func24, Try.ntmps24
  go_wp2_with fail
  refine (HS.out _).mono ?_
  rintro e w1 ⟨rfl, rfl⟩
  go_wp2
  go_loopw [7, 8, 9] (fun v f i wr => ∃ k : Nat, k ≤ n ∧ i = .int .i64 k ∧ f = .int .i64 (gapGo (L.take k) lo hi).2 ∧ wr.ownsRow w1.heap.size 31 2 v (gapGo (L.take k) lo hi).1.length (spanCells (gapGo (L.take k) lo hi).1) ∧ (gapGo (L.take k) lo hi).1.length ≤ k ∧ Bw w1 wr) (fun _ _ i _ => n - (intOf i).toNat)
  case atStart => exact ⟨0, Nat.zero_le _, rfl, rfl, World.ownsRow_nil _ _ _ _, Nat.le_refl _, Bw.refl _⟩
  case round =>
    obtain ⟨k, hk, rfl, rfl, hown, hlen, hbw⟩ := hrel
    obtain ⟨vo, vc, rfl⟩ := own_slice hown
    have hc1 := hbw.cell HC.out
    have HOW := hid hown
    have HBW := hid hbw
    have hbz : w1.heap.size ≤ wr.heap.size := hbw.size
    clear hown
    by_cases hlt : k < n
    · obtain ⟨b, cap, hb⟩ := own_some HL.out (by omega)
      obtain ⟨rfl, rfl⟩ : ro = some ⟨b, 0, none⟩ ∧ rc = cap := by simpa using hb
      clear hb
      have hkl : k < L.length := by have := HN.out; omega
      obtain ⟨p0, p1⟩ := ref_span (hbw.own HL.out) HN.out hlt
      have HQ := hid (gap_next hkl lo hi)
      generalize gapGo (L.take k) lo hi = G at *
      obtain ⟨gl, gf⟩ := G
      generalize L[k] = q at *
      have hk1 : (k : Int) < n := by omega
      clear hkl hbw
      dsimp only at *
      by_cases a1 : q.hi ≤ lo
      · have i1 : (q.hi : Int) ≤ lo := by omega
        have hst : gapStep lo hi (gl, gf) q = (gl, gf) := if_pos a1
        have HQ2 := hid (HQ.out.trans hst)
        clear hst
        go_wp2
        refine ⟨⟨k + 1, by omega, by go_num, by rw [HQ2.out], by rw [HQ2.out]; exact HOW.out.alloc _, by rw [HQ2.out]; exact Nat.le_succ_of_le hlen, HBW.out.alloc _⟩, by simp [intOf]; omega⟩
      · have i1 : ¬ (q.hi : Int) ≤ lo := by omega
        by_cases a2 : hi ≤ q.lo
        · have i2 : (hi : Int) ≤ q.lo := by omega
          have hst : gapStep lo hi (gl, gf) q = (gl, gf) := (if_neg a1).trans (if_pos a2)
          have HQ2 := hid (HQ.out.trans hst)
          clear hst
          go_wp2
          refine ⟨⟨k + 1, by omega, by go_num, by rw [HQ2.out], by rw [HQ2.out]; exact HOW.out.alloc _, by rw [HQ2.out]; exact Nat.le_succ_of_le hlen, HBW.out.alloc _⟩, by simp [intOf]; omega⟩
        · have i2 : ¬ (hi : Int) ≤ q.lo := by omega
          by_cases a3 : gf < q.lo
          · have i3 : (gf : Int) < q.lo := by omega
            have hst : gapStep lo hi (gl, gf) q = (gl ++ [(gf, q.lo)], q.hi) := (if_neg a1).trans ((if_neg a2).trans (if_pos a3))
            have HQ2 := hid (HQ.out.trans hst)
            clear hst
            go_wp2_with (at_builtin; refine wpList_append_own_at _ rfl (.tmp 47) (.tmp 52) 22 rfl w1.heap.size 31 i0 (.agg #[.int .i64 0, .int .i64 0]) 2 16 Try.underlying22 hinf hz0 hz1 hz2 rfl (by decide) (.slice vo gl.length vc) gl.length (spanCells gl) rfl ((HOW.out.alloc _).alloc _) ⟨wr.heap.size + 1, 0, none⟩ 1 1 [.int .i64 gf, .int .i64 q.lo] rfl rfl (two_at (by simp) _ _ _) (by intro u hu; simp at hu; rcases hu with rfl | rfl <;> rfl) (by unfold maxLen; omega) (by omega) (by simp; omega) ?_; intro v' w5 hown5 hgrow5 _ _; have hB5 : Has w5 wr.heap.size 31 #[.int .i64 q.lo, .int .i64 q.hi] := (hgrow5.block wr.heap.size (by simp only [World.size_alloc]; omega) (fun e => absurd (own_ltJ HOW.out e.symm) (Nat.lt_irrefl _))).trans ((Has.new wr _ _).alloc _); have y1 : w5.cell? ⟨wr.heap.size, 1, none⟩ = some (.int .i64 q.hi) := hB5.cell 1; have HO5 := hid hown5; have HG5 := hid hgrow5; clear hown5 hgrow5 hB5)
            refine ⟨⟨k + 1, by omega, by go_num, by rw [HQ2.out], ?_, by rw [HQ2.out]; simp; omega, Below.trans ((HBW.out.alloc _).alloc _) (own_grownJ HOW.out HG5.out (by simp; omega))⟩, by simp [intOf]; omega⟩
            rw [HQ2.out, spanCells_snoc, List.length_append]
            exact HO5.out
          · have i3 : ¬ (gf : Int) < q.lo := by omega
            have hst : gapStep lo hi (gl, gf) q = (gl, q.hi) := (if_neg a1).trans ((if_neg a2).trans (if_neg a3))
            have HQ2 := hid (HQ.out.trans hst)
            clear hst
            go_wp2
            refine ⟨⟨k + 1, by omega, by go_num, by rw [HQ2.out], by rw [HQ2.out]; exact HOW.out.alloc _, by rw [HQ2.out]; exact Nat.le_succ_of_le hlen, HBW.out.alloc _⟩, by simp [intOf]; omega⟩
    · obtain rfl : k = n := by omega
      have HE := hid (gap_all HN.out lo hi)
      generalize hG : gapGo (L.take k) lo hi = G at *
      obtain ⟨gl, gf⟩ := G
      clear hbw hG
      dsimp only at *
      by_cases a1 : gf < hi
      · have i1 : (gf : Int) < hi := by omega
        have hR : rgaps L lo hi = gl ++ [(gf, hi)] := by unfold rgaps; rw [← HE.out]; exact if_pos a1
        have HR := hid hR
        clear hR
        go_wp2_with (at_builtin; refine wpList_append_own_at _ rfl (.tmp 59) (.tmp 63) 22 rfl w1.heap.size 31 i0 (.agg #[.int .i64 0, .int .i64 0]) 2 16 Try.underlying22 hinf hz0 hz1 hz2 rfl (by decide) (.slice vo gl.length vc) gl.length (spanCells gl) rfl (HOW.out.alloc _) ⟨wr.heap.size, 0, none⟩ 1 1 [.int .i64 gf, .int .i64 hi] rfl rfl (own_two _ _ _ _) (by intro u hu; simp at hu; rcases hu with rfl | rfl <;> rfl) (by unfold maxLen; omega) (by omega) (by simp only [World.size_alloc]; omega) ?_; intro v' w5 hown5 hgrow5 _ _; have HO5 := hid hown5; have HG5 := hid hgrow5; clear hown5 hgrow5)
        go_returns
        refine ⟨_, rfl, ?_, Below.trans (HBW.out.alloc _) (own_grownJ HOW.out HG5.out (by simp only [World.size_alloc]; omega))⟩
        rw [HR.out, spanCells_snoc, List.length_append]
        exact HO5.out
      · have i1 : ¬ (gf : Int) < hi := by omega
        have hR : rgaps L lo hi = gl := by unfold rgaps; rw [← HE.out]; exact if_neg a1
        have HR := hid hR
        clear hR
        go_wp2
        go_returns
        exact ⟨_, rfl, by rw [HR.out]; exact HOW.out, HBW.out⟩
set_option maxRecDepth 100000 in
theorem rgaps_bad (g : Nat) (lo hi : Int) (w : World) (hsp : spB lo hi = false) :
    Calls Try.prog 24 #[.pointer (some ⟨g, 0, none⟩), .int .i64 lo, .int .i64 hi] w fun e w' => e = .returned (.slice none 0 0) ∧ w' = w := by
  have HS := hid (fun W => rspan_any lo hi W)
  rw [hsp] at HS
  go_enter Try.func24, Try.ntmps24
  go_wp2_with fail
  refine (HS.out _).mono ?_
  rintro e w1 ⟨rfl, hw1⟩
  go_wp2
  go_returns
  exact ⟨rfl, rfl⟩
end Go.Proofs.Ytemgdnloabefjaa

/- The document's Set: Add (contract of the function). -/
import Derived.Test.YtemgdnloabefjaaRegJ
import Derived.Test.YtemgdnloabefjaaRegK
import Derived.Test.YtemgdnloabefjaaRegL
import Derived.Test.YtemgdnloabefjaaKeep
namespace Go.Proofs.Ytemgdnloabefjaa
open Go.RowKit Go.Conc
set_option linter.unusedVariables false
set_option linter.unusedSimpArgs false
def raStep (p : PartR) (st : List PartR × Bool) (q : PartR) : List PartR × Bool := if st.2 = false ∧ p.lo < q.lo then ((st.1 ++ [p]) ++ [q], true) else (st.1 ++ [q], st.2)
def raGo (p : PartR) (L : List PartR) : List PartR × Bool := L.foldl (raStep p) ([], false)
def raFin (p : PartR) (st : List PartR × Bool) : List PartR := if st.2 then st.1 else st.1 ++ [p]
theorem ra_next {L : List PartR} {k : Nat} (hk : k < L.length) (p : PartR) : raGo p (L.take (k + 1)) = raStep p (raGo p (L.take k)) L[k] := by
  rw [List.take_succ_eq_append_getElem hk]
  unfold raGo
  rw [List.foldl_append]
  rfl
theorem ra_all {L : List PartR} {n : Nat} (hn : L.length = n) (p : PartR) : raGo p (L.take n) = raGo p L := by rw [List.take_of_length_le (by omega)]
theorem ra_true (p : PartR) (L acc : List PartR) : L.foldl (raStep p) (acc, true) = (acc ++ L, true) := by
  induction L generalizing acc with
  | nil => simp
  | cons q L ih =>
    rw [List.foldl_cons]
    have e : raStep p (acc, true) q = (acc ++ [q], true) := by unfold raStep; rw [if_neg (by simp)]
    rw [e, ih]
    simp
theorem ra_false (p : PartR) (L acc : List PartR) : raFin p (L.foldl (raStep p) (acc, false)) = acc ++ radd L p := by
  induction L generalizing acc with
  | nil => rfl
  | cons q L ih =>
    rw [List.foldl_cons]
    by_cases h : p.lo < q.lo
    · have e : raStep p (acc, false) q = ((acc ++ [p]) ++ [q], true) := by unfold raStep; rw [if_pos ⟨rfl, h⟩]
      rw [e, ra_true]
      rw [show radd (q :: L) p = p :: q :: L from if_pos h]
      unfold raFin
      simp
    · have e : raStep p (acc, false) q = (acc ++ [q], false) := by unfold raStep; rw [if_neg (fun x => h x.2)]
      rw [e, ih]
      rw [show radd (q :: L) p = q :: radd L p from if_neg h]
      simp
theorem ra_fin (p : PartR) (L : List PartR) : raFin p (raGo p L) = radd L p := by
  have := ra_false p L []
  rwa [List.nil_append] at this
theorem refSpans_snoc (l : List PartR) (p : PartR) : refSpans (l ++ [p]) = refSpans l ++ [.int .i64 p.lo, .int .i64 p.hi] := by unfold refSpans; rw [List.map_append]; exact spanCells_snoc _ _ _
theorem refInts_snoc (l : List PartR) (p : PartR) : refInts (l ++ [p]) = refInts l ++ [.int .i64 p.x] := by simp [refInts]
theorem intInfo : (Try.prog.info? 3).map (fun i => (i.zero, i.size, i.bytes)) = some (some (.int .i64 0), 1, 8) := by kernel_rfl
theorem own_one (w : World) (x : Value) (t : TypeId) : ∀ j u, [x][j]? = some u → (w.alloc (.cells #[x] t)).cell? ((⟨w.heap.size, 0, none⟩ : Addr).add j) = some u := fun j u hu => by
  match j, hu with
  | 0, hu =>
    simp at hu; subst hu
    exact (Has.new w t #[x]).cell 0
theorem own_other {w w' : World} {B t1 s1 n1 t2 s2 n2 : Nat} {v1 v2 : Value} {x1 x2 : List Value} (h2 : w.ownsRow B t2 s2 v2 n2 x2) (h1 : w.ownsRow B t1 s1 v1 n1 x1) (hne : t1 ≠ t2) (hg : w.grownBy w' v1.ownBlock) : w'.ownsRow B t2 s2 v2 n2 x2 :=
  own_keep h2 fun b hb => hg.block b (own_ltJ h2 hb) fun e => by
    obtain ⟨c1, e1⟩ := own_at h1 e.symm
    obtain ⟨c2, e2⟩ := own_at h2 hb
    rw [e1] at e2
    injection e2 with e2
    injection e2 with _ e2
    exact hne e2
/-- The document's set when Add has put a span in: its rows are new. -/
def RefNew (w w' : World) (g : Nat) (L : List PartR) : Prop :=
  ∃ rl rx, Has w' g 28 #[rl, rx] ∧ w'.ownsRow w.heap.size 31 2 rl L.length (refSpans L) ∧ w'.ownsRow w.heap.size 3 1 rx L.length (refInts L)
set_option maxRecDepth 100000 in
set_option maxHeartbeats 8000000 in
theorem radd_ok (g : Nat) (L : List PartR) (h9 : L.length ≤ 1000) (lo hi : Nat) (x : Int) (w : World) (hs : RefAt w g L) (hsp : spB lo hi = true) (hc : rclashB L lo hi = false) :
    Calls Try.prog 18 #[.pointer (some ⟨g, 0, none⟩), .int .i64 lo, .int .i64 hi, .int .i64 x] w fun e w' => e = .returned (.int .i64 0) ∧ RefNew w w' g (radd L ⟨lo, hi, x⟩) ∧ Keeps (fun i => i = g) w w' := by
  obtain ⟨i0, hinf, hz0, hz1, hz2⟩ := info_parts spanInfo
  obtain ⟨j0, jinf, jz0, jz1, jz2⟩ := info_parts intInfo
  have HS := hid (fun W => rspan_any lo hi W)
  have HC := hid (rclash_any g L (by omega) lo hi w hs)
  rw [hsp] at HS
  rw [hc] at HC
  obtain ⟨rl, rx, hh, hl, hx⟩ := hs
  obtain ⟨ro, rc, rfl⟩ := own_slice hl
  obtain ⟨xo, xc, rfl⟩ := own_slice hx
  obtain ⟨n, hn⟩ : ∃ n, L.length = n := ⟨_, rfl⟩
  rw [hn] at hl hh h9 hx
  have HG := hid hh
  have HN := hid hn
  have HL := hid hl
  have HX := hid hx
  have hgB : g < w.heap.size := hh.lt
  clear hn hl hx hh hsp hc
  go_enter Try.func18, Try.ntmps18
  go_wp2_with fail
  refine (HS.out _).mono ?_
  rintro e w1 ⟨rfl, rfl⟩
  go_wp2_with fail
  refine HC.out.mono ?_
  rintro e w2 ⟨rfl, z0, hw2⟩
  have HB2 : Hid (Bw w1 w2) := hid (by rw [hw2]; exact (Bw.refl w1).drewN z0)
  clear hw2
  go_wp2_with fail
  go_loopw [9, 10, 11, 12] (fun v u b i wr => ∃ k : Nat, k ≤ n ∧ i = .int .i64 k ∧ b = .bool (raGo ⟨lo, hi, x⟩ (L.take k)).2 ∧ wr.ownsRow w1.heap.size 31 2 v (raGo ⟨lo, hi, x⟩ (L.take k)).1.length (refSpans (raGo ⟨lo, hi, x⟩ (L.take k)).1) ∧ wr.ownsRow w1.heap.size 3 1 u (raGo ⟨lo, hi, x⟩ (L.take k)).1.length (refInts (raGo ⟨lo, hi, x⟩ (L.take k)).1) ∧ (raGo ⟨lo, hi, x⟩ (L.take k)).1.length ≤ k + (raGo ⟨lo, hi, x⟩ (L.take k)).2.toNat ∧ Bw w1 wr) (fun _ _ _ i _ => n - (intOf i).toNat)
  case atStart => exact ⟨0, Nat.zero_le _, rfl, rfl, World.ownsRow_nil _ _ _ _, World.ownsRow_nil _ _ _ _, by simp [raGo], HB2.out⟩
  case round =>
    obtain ⟨k, hk, rfl, rfl, hown, hown2, hlen, hbw⟩ := hrel
    obtain ⟨vo, vc, rfl⟩ := own_slice hown
    obtain ⟨no, nc, rfl⟩ := own_slice hown2
    have HOL := hid hown
    have HON := hid hown2
    have HBW := hid hbw
    have hbz : w1.heap.size ≤ wr.heap.size := hbw.size
    have c0 := (Bw.has hbw HG.out).cell 0
    have c1 := (Bw.has hbw HG.out).cell 1
    clear hown hown2 hbw
    by_cases hlt : k < n
    · obtain ⟨b, cap, hb⟩ := own_some HL.out (by omega)
      obtain ⟨rfl, rfl⟩ : ro = some ⟨b, 0, none⟩ ∧ rc = cap := by simpa using hb
      obtain ⟨b2, cap2, hb2⟩ := own_some HX.out (by omega)
      obtain ⟨rfl, rfl⟩ : xo = some ⟨b2, 0, none⟩ ∧ xc = cap2 := by simpa using hb2
      clear hb hb2
      have hkl : k < L.length := by have := HN.out; omega
      obtain ⟨q0, q1⟩ := ref_span HL.out HN.out hlt
      have q2 := ref_int HX.out HN.out hlt
      have HQ := hid (ra_next hkl ⟨lo, hi, x⟩)
      generalize raGo ⟨lo, hi, x⟩ (L.take k) = G at *
      obtain ⟨acc, put⟩ := G
      generalize L[k] = q at *
      have hk1 : (k : Int) < n := by omega
      have HQ0 := hid q0
      have HQ1 := hid q1
      have HQ2 := hid q2
      have p0 := Bw.cell HBW.out q0
      have p1 := Bw.cell HBW.out q1
      clear hkl q0 q1 q2
      dsimp only at *
      cases put with
      | true =>
        have hlen2 : acc.length ≤ k + 1 := hlen
        clear hlen
        have hst : raStep ⟨lo, hi, x⟩ (acc, true) q = (acc ++ [q], true) := if_neg (by simp)
        have HR := hid (HQ.out.trans hst)
        clear hst HQ
        go_wp2_with (first
          | (at_builtin; refine wpList_append_own_at _ rfl (.tmp 54) (.tmp 62) 22 rfl w1.heap.size 31 i0 (.agg #[.int .i64 0, .int .i64 0]) 2 16 Try.underlying22 hinf hz0 hz1 hz2 rfl (by decide) (.slice vo acc.length vc) acc.length (refSpans acc) rfl (HOL.out.alloc _) ⟨wr.heap.size, 0, none⟩ 1 1 [.int .i64 q.lo, .int .i64 q.hi] rfl rfl (own_two wr _ _ _) (by intro u hu; simp at hu; rcases hu with rfl | rfl <;> rfl) (by unfold maxLen; omega) (by omega) (by simp only [World.size_alloc]; omega) ?_; intro v7 w7 hown7 hgrow7 _ _; obtain ⟨vo7, vc7, rfl⟩ := own_slice hown7; have HO7 := hid hown7; have HB7 : Hid (Bw w1 w7) := hid (Below.trans (HBW.out.alloc _) (own_grownJ (HOL.out.alloc (.cells #[.int .i64 q.lo, .int .i64 q.hi] 31)) hgrow7 (by simp only [World.size_alloc]; omega))); have HN7 := hid (own_other (HON.out.alloc (.cells #[.int .i64 q.lo, .int .i64 q.hi] 31)) (HOL.out.alloc (.cells #[.int .i64 q.lo, .int .i64 q.hi] 31)) (by decide) hgrow7); have k7 := (Bw.has HB7.out HG.out).cell 1; have k8 := Bw.cell HB7.out HQ2.out; have hz7 : w1.heap.size ≤ w7.heap.size := Below.size HB7.out; clear hown7 hgrow7)
          | (at_builtin; refine wpList_append_own_at _ rfl (.tmp 64) (.tmp 72) 26 rfl w1.heap.size 3 j0 (.int .i64 0) 1 8 Try.underlying26 jinf jz0 jz1 jz2 rfl (by decide) (.slice no acc.length nc) acc.length (refInts acc) rfl (HN7.out.alloc _) ⟨w7.heap.size, 0, none⟩ 1 1 [.int .i64 q.x] rfl rfl (own_one w7 _ _) (by intro u hu; simp at hu; subst hu; rfl) (by unfold maxLen; omega) (by omega) (by simp only [World.size_alloc]; omega) ?_; intro v8 w8 hown8 hgrow8 _ _; obtain ⟨vo8, vc8, rfl⟩ := own_slice hown8; have HO8 := hid hown8; have HB8 : Hid (Bw w1 w8) := hid (Below.trans (HB7.out.alloc _) (own_grownJ (HN7.out.alloc (.cells #[.int .i64 q.x] 3)) hgrow8 (by simp only [World.size_alloc]; omega))); have HL8 := hid (own_other (HO7.out.alloc (.cells #[.int .i64 q.x] 3)) (HN7.out.alloc (.cells #[.int .i64 q.x] 3)) (by decide) hgrow8); clear hown8 hgrow8))
        refine ⟨⟨k + 1, by omega, by go_num, by rw [HR.out], ?_, ?_, by rw [HR.out]; simp only [List.length_append, List.length_cons, List.length_nil, Bool.toNat_true, Bool.toNat_false]; omega, HB8.out⟩, by simp [intOf]; omega⟩
        · rw [HR.out, refSpans_snoc, List.length_append]; exact HL8.out
        · rw [HR.out, refInts_snoc, List.length_append]; exact HO8.out
      | false =>
        have hlen2 : acc.length ≤ k := hlen
        clear hlen
        by_cases a3 : lo < q.lo
        · have i3 : (lo : Int) < q.lo := by omega
          have hst : raStep ⟨lo, hi, x⟩ (acc, false) q = ((acc ++ [⟨lo, hi, x⟩]) ++ [q], true) := if_pos ⟨rfl, a3⟩
          have HR := hid (HQ.out.trans hst)
          clear hst HQ
          go_wp2_with (first
            | (at_builtin; refine wpList_append_own_at _ rfl (.tmp 44) (.tmp 48) 22 rfl w1.heap.size 31 i0 (.agg #[.int .i64 0, .int .i64 0]) 2 16 Try.underlying22 hinf hz0 hz1 hz2 rfl (by decide) (.slice vo acc.length vc) acc.length (refSpans acc) rfl (HOL.out.alloc _) ⟨wr.heap.size, 0, none⟩ 1 1 [.int .i64 lo, .int .i64 hi] rfl rfl (own_two wr _ _ _) (by intro u hu; simp at hu; rcases hu with rfl | rfl <;> rfl) (by unfold maxLen; omega) (by omega) (by simp only [World.size_alloc]; omega) ?_; intro v5 w5 hown5 hgrow5 _ _; obtain ⟨vo5, vc5, rfl⟩ := own_slice hown5; have HO5 := hid hown5; have HB5 : Hid (Bw w1 w5) := hid (Below.trans (HBW.out.alloc _) (own_grownJ (HOL.out.alloc (.cells #[.int .i64 lo, .int .i64 hi] 31)) hgrow5 (by simp only [World.size_alloc]; omega))); have HN5 := hid (own_other (HON.out.alloc (.cells #[.int .i64 lo, .int .i64 hi] 31)) (HOL.out.alloc (.cells #[.int .i64 lo, .int .i64 hi] 31)) (by decide) hgrow5); have hz5 : w1.heap.size ≤ w5.heap.size := Below.size HB5.out; clear hown5 hgrow5)
            | (at_builtin; refine wpList_append_own_at _ rfl (.tmp 50) (.tmp 52) 26 rfl w1.heap.size 3 j0 (.int .i64 0) 1 8 Try.underlying26 jinf jz0 jz1 jz2 rfl (by decide) (.slice no acc.length nc) acc.length (refInts acc) rfl (HN5.out.alloc _) ⟨w5.heap.size, 0, none⟩ 1 1 [.int .i64 x] rfl rfl (own_one w5 _ _) (by intro u hu; simp at hu; subst hu; rfl) (by unfold maxLen; omega) (by omega) (by simp only [World.size_alloc]; omega) ?_; intro v6 w6 hown6 hgrow6 _ _; obtain ⟨vo6, vc6, rfl⟩ := own_slice hown6; have HO6 := hid hown6; have HB6 : Hid (Bw w1 w6) := hid (Below.trans (HB5.out.alloc _) (own_grownJ (HN5.out.alloc (.cells #[.int .i64 x] 3)) hgrow6 (by simp only [World.size_alloc]; omega))); have HL6 := hid (own_other (HO5.out.alloc (.cells #[.int .i64 x] 3)) (HN5.out.alloc (.cells #[.int .i64 x] 3)) (by decide) hgrow6); have m0 := (Bw.has HB6.out HG.out).cell 0; have m1 := Bw.cell HB6.out HQ0.out; have m2 := Bw.cell HB6.out HQ1.out; have hz6 : w1.heap.size ≤ w6.heap.size := Below.size HB6.out; clear hown6 hgrow6)
            | (at_builtin; refine wpList_append_own_at _ rfl (.tmp 54) (.tmp 62) 22 rfl w1.heap.size 31 i0 (.agg #[.int .i64 0, .int .i64 0]) 2 16 Try.underlying22 hinf hz0 hz1 hz2 rfl (by decide) (.slice vo5 (acc.length + 1) vc5) (acc.length + 1) (refSpans acc ++ [.int .i64 lo, .int .i64 hi]) rfl (HL6.out.alloc _) ⟨w6.heap.size, 0, none⟩ 1 1 [.int .i64 q.lo, .int .i64 q.hi] rfl rfl (own_two w6 _ _ _) (by intro u hu; simp at hu; rcases hu with rfl | rfl <;> rfl) (by unfold maxLen; omega) (by omega) (by simp only [World.size_alloc]; omega) ?_; intro v7 w7 hown7 hgrow7 _ _; obtain ⟨vo7, vc7, rfl⟩ := own_slice hown7; have HO7 := hid hown7; have HB7 : Hid (Bw w1 w7) := hid (Below.trans (HB6.out.alloc _) (own_grownJ (HL6.out.alloc (.cells #[.int .i64 q.lo, .int .i64 q.hi] 31)) hgrow7 (by simp only [World.size_alloc]; omega))); have HN7 := hid (own_other (HO6.out.alloc (.cells #[.int .i64 q.lo, .int .i64 q.hi] 31)) (HL6.out.alloc (.cells #[.int .i64 q.lo, .int .i64 q.hi] 31)) (by decide) hgrow7); have k7 := (Bw.has HB7.out HG.out).cell 1; have k8 := Bw.cell HB7.out HQ2.out; have hz7 : w1.heap.size ≤ w7.heap.size := Below.size HB7.out; clear hown7 hgrow7)
            | (at_builtin; refine wpList_append_own_at _ rfl (.tmp 64) (.tmp 72) 26 rfl w1.heap.size 3 j0 (.int .i64 0) 1 8 Try.underlying26 jinf jz0 jz1 jz2 rfl (by decide) (.slice vo6 (acc.length + 1) vc6) (acc.length + 1) (refInts acc ++ [.int .i64 x]) rfl (HN7.out.alloc _) ⟨w7.heap.size, 0, none⟩ 1 1 [.int .i64 q.x] rfl rfl (own_one w7 _ _) (by intro u hu; simp at hu; subst hu; rfl) (by unfold maxLen; omega) (by omega) (by simp only [World.size_alloc]; omega) ?_; intro v8 w8 hown8 hgrow8 _ _; obtain ⟨vo8, vc8, rfl⟩ := own_slice hown8; have HO8 := hid hown8; have HB8 : Hid (Bw w1 w8) := hid (Below.trans (HB7.out.alloc _) (own_grownJ (HN7.out.alloc (.cells #[.int .i64 q.x] 3)) hgrow8 (by simp only [World.size_alloc]; omega))); have HL8 := hid (own_other (HO7.out.alloc (.cells #[.int .i64 q.x] 3)) (HN7.out.alloc (.cells #[.int .i64 q.x] 3)) (by decide) hgrow8); clear hown8 hgrow8))
          refine ⟨⟨k + 1, by omega, by go_num, by rw [HR.out], ?_, ?_, ?_, HB8.out⟩, by simp [intOf]; omega⟩
          · rw [HR.out, refSpans_snoc, refSpans_snoc, List.length_append, List.length_append]; exact HL8.out
          · rw [HR.out, refInts_snoc, refInts_snoc, List.length_append, List.length_append]; exact HO8.out
          · rw [HR.out]; simp only [List.length_append, List.length_cons, List.length_nil, Bool.toNat_true]; omega
        · have i3 : ¬ (lo : Int) < q.lo := by omega
          have hst : raStep ⟨lo, hi, x⟩ (acc, false) q = (acc ++ [q], false) := if_neg (fun h => a3 h.2)
          have HR := hid (HQ.out.trans hst)
          clear hst HQ
          go_wp2_with (first
            | (at_builtin; refine wpList_append_own_at _ rfl (.tmp 54) (.tmp 62) 22 rfl w1.heap.size 31 i0 (.agg #[.int .i64 0, .int .i64 0]) 2 16 Try.underlying22 hinf hz0 hz1 hz2 rfl (by decide) (.slice vo acc.length vc) acc.length (refSpans acc) rfl (HOL.out.alloc _) ⟨wr.heap.size, 0, none⟩ 1 1 [.int .i64 q.lo, .int .i64 q.hi] rfl rfl (own_two wr _ _ _) (by intro u hu; simp at hu; rcases hu with rfl | rfl <;> rfl) (by unfold maxLen; omega) (by omega) (by simp only [World.size_alloc]; omega) ?_; intro v7 w7 hown7 hgrow7 _ _; obtain ⟨vo7, vc7, rfl⟩ := own_slice hown7; have HO7 := hid hown7; have HB7 : Hid (Bw w1 w7) := hid (Below.trans (HBW.out.alloc _) (own_grownJ (HOL.out.alloc (.cells #[.int .i64 q.lo, .int .i64 q.hi] 31)) hgrow7 (by simp only [World.size_alloc]; omega))); have HN7 := hid (own_other (HON.out.alloc (.cells #[.int .i64 q.lo, .int .i64 q.hi] 31)) (HOL.out.alloc (.cells #[.int .i64 q.lo, .int .i64 q.hi] 31)) (by decide) hgrow7); have k7 := (Bw.has HB7.out HG.out).cell 1; have k8 := Bw.cell HB7.out HQ2.out; have hz7 : w1.heap.size ≤ w7.heap.size := Below.size HB7.out; clear hown7 hgrow7)
            | (at_builtin; refine wpList_append_own_at _ rfl (.tmp 64) (.tmp 72) 26 rfl w1.heap.size 3 j0 (.int .i64 0) 1 8 Try.underlying26 jinf jz0 jz1 jz2 rfl (by decide) (.slice no acc.length nc) acc.length (refInts acc) rfl (HN7.out.alloc _) ⟨w7.heap.size, 0, none⟩ 1 1 [.int .i64 q.x] rfl rfl (own_one w7 _ _) (by intro u hu; simp at hu; subst hu; rfl) (by unfold maxLen; omega) (by omega) (by simp only [World.size_alloc]; omega) ?_; intro v8 w8 hown8 hgrow8 _ _; obtain ⟨vo8, vc8, rfl⟩ := own_slice hown8; have HO8 := hid hown8; have HB8 : Hid (Bw w1 w8) := hid (Below.trans (HB7.out.alloc _) (own_grownJ (HN7.out.alloc (.cells #[.int .i64 q.x] 3)) hgrow8 (by simp only [World.size_alloc]; omega))); have HL8 := hid (own_other (HO7.out.alloc (.cells #[.int .i64 q.x] 3)) (HN7.out.alloc (.cells #[.int .i64 q.x] 3)) (by decide) hgrow8); clear hown8 hgrow8))
          refine ⟨⟨k + 1, by omega, by go_num, by rw [HR.out], ?_, ?_, by rw [HR.out]; simp only [List.length_append, List.length_cons, List.length_nil, Bool.toNat_true, Bool.toNat_false]; omega, HB8.out⟩, by simp [intOf]; omega⟩
          · rw [HR.out, refSpans_snoc, List.length_append]; exact HL8.out
          · rw [HR.out, refInts_snoc, List.length_append]; exact HO8.out
    · obtain rfl : k = n := by omega
      have HE := hid (ra_all HN.out ⟨lo, hi, x⟩)
      have HF := hid (ra_fin ⟨lo, hi, x⟩ L)
      generalize raGo ⟨lo, hi, x⟩ (L.take k) = G at *
      obtain ⟨acc, put⟩ := G
      have f0 := (Bw.has HBW.out HG.out).frozen 0
      have f1 := (Bw.has HBW.out HG.out).frozen 1
      have HGR := hid (Bw.has HBW.out HG.out)
      dsimp only at *
      cases put with
      | true =>
        have hR : radd L ⟨lo, hi, x⟩ = acc := by rw [← HF.out, ← HE.out]; rfl
        have HR := hid hR
        clear hR hlen
        go_wp2
        go_returns
        rw [HR.out]
        refine ⟨rfl, ⟨.slice vo acc.length vc, .slice no acc.length nc, ?_, ?_, ?_⟩, ?_⟩
        · have h := (HGR.out.put 0 (.slice vo acc.length vc)).put 1 (.slice no acc.length nc)
          simpa using h
        · exact own_keep HOL.out fun b hb => (Below.heap_setCell _ _ _ _ (by have := own_ge HOL.out hb; simp; omega)).trans (Below.heap_setCell _ _ _ _ (by have := own_ge HOL.out hb; simp; omega))
        · exact own_keep HON.out fun b hb => (Below.heap_setCell _ _ _ _ (by have := own_ge HON.out hb; simp; omega)).trans (Below.heap_setCell _ _ _ _ (by have := own_ge HON.out hb; simp; omega))
        · exact Keeps.setCell (p := ⟨g, 1, none⟩) (Keeps.setCell (p := ⟨g, 0, none⟩) (Keeps.of_bw (F := fun i => i = g) HBW.out) (.inl rfl) _) (.inl rfl) _
      | false =>
        have hlen2 : acc.length ≤ k := hlen
        have hR : radd L ⟨lo, hi, x⟩ = acc ++ [⟨lo, hi, x⟩] := by rw [← HF.out, ← HE.out]; rfl
        have HR := hid hR
        clear hR hlen
        go_wp2_with (first
          | (at_builtin; refine wpList_append_own_at _ rfl (.tmp 76) (.tmp 80) 22 rfl w1.heap.size 31 i0 (.agg #[.int .i64 0, .int .i64 0]) 2 16 Try.underlying22 hinf hz0 hz1 hz2 rfl (by decide) (.slice vo acc.length vc) acc.length (refSpans acc) rfl (HOL.out.alloc _) ⟨wr.heap.size, 0, none⟩ 1 1 [.int .i64 lo, .int .i64 hi] rfl rfl (own_two wr _ _ _) (by intro u hu; simp at hu; rcases hu with rfl | rfl <;> rfl) (by unfold maxLen; omega) (by omega) (by simp only [World.size_alloc]; omega) ?_; intro v5 w5 hown5 hgrow5 _ _; obtain ⟨vo5, vc5, rfl⟩ := own_slice hown5; have HO5 := hid hown5; have HB5 : Hid (Bw w1 w5) := hid (Below.trans (HBW.out.alloc _) (own_grownJ (HOL.out.alloc (.cells #[.int .i64 lo, .int .i64 hi] 31)) hgrow5 (by simp only [World.size_alloc]; omega))); have HN5 := hid (own_other (HON.out.alloc (.cells #[.int .i64 lo, .int .i64 hi] 31)) (HOL.out.alloc (.cells #[.int .i64 lo, .int .i64 hi] 31)) (by decide) hgrow5); have hz5 : w1.heap.size ≤ w5.heap.size := Below.size HB5.out; clear hown5 hgrow5)
          | (at_builtin; refine wpList_append_own_at _ rfl (.tmp 82) (.tmp 84) 26 rfl w1.heap.size 3 j0 (.int .i64 0) 1 8 Try.underlying26 jinf jz0 jz1 jz2 rfl (by decide) (.slice no acc.length nc) acc.length (refInts acc) rfl (HN5.out.alloc _) ⟨w5.heap.size, 0, none⟩ 1 1 [.int .i64 x] rfl rfl (own_one w5 _ _) (by intro u hu; simp at hu; subst hu; rfl) (by unfold maxLen; omega) (by omega) (by simp only [World.size_alloc]; omega) ?_; intro v6 w6 hown6 hgrow6 _ _; obtain ⟨vo6, vc6, rfl⟩ := own_slice hown6; have HO6 := hid hown6; have HB6 : Hid (Bw w1 w6) := hid (Below.trans (HB5.out.alloc _) (own_grownJ (HN5.out.alloc (.cells #[.int .i64 x] 3)) hgrow6 (by simp only [World.size_alloc]; omega))); have HL6 := hid (own_other (HO5.out.alloc (.cells #[.int .i64 x] 3)) (HN5.out.alloc (.cells #[.int .i64 x] 3)) (by decide) hgrow6); have HGS := hid (Bw.has HB6.out HG.out); have m0 := HGS.out.cell 0; have m1 := HGS.out.cell 1; have g0 := HGS.out.frozen 0; have g1 := HGS.out.frozen 1; have hz6 : w1.heap.size ≤ w6.heap.size := Below.size HB6.out; clear hown6 hgrow6))
        go_returns
        rw [HR.out]
        refine ⟨rfl, ⟨.slice vo5 (acc.length + 1) vc5, .slice vo6 (acc.length + 1) vc6, ?_, ?_, ?_⟩, ?_⟩
        · have h := (HGS.out.put 0 (.slice vo5 (acc.length + 1) vc5)).put 1 (.slice vo6 (acc.length + 1) vc6)
          simpa using h
        · rw [refSpans_snoc, List.length_append]
          exact own_keep HL6.out fun b hb => (Below.heap_setCell _ _ _ _ (by have := own_ge HL6.out hb; simp; omega)).trans (Below.heap_setCell _ _ _ _ (by have := own_ge HL6.out hb; simp; omega))
        · rw [refInts_snoc, List.length_append]
          exact own_keep HO6.out fun b hb => (Below.heap_setCell _ _ _ _ (by have := own_ge HO6.out hb; simp; omega)).trans (Below.heap_setCell _ _ _ _ (by have := own_ge HO6.out hb; simp; omega))
        · exact Keeps.setCell (p := ⟨g, 1, none⟩) (Keeps.setCell (p := ⟨g, 0, none⟩) (Keeps.of_bw (F := fun i => i = g) HB6.out) (.inl rfl) _) (.inl rfl) _
end Go.Proofs.Ytemgdnloabefjaa

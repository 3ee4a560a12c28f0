/- The document's segments (contract of the function). -/
import Derived.Test.YtciaebhkemdilaaElfRa
import Derived.Test.YtciaebhkemdilaaElfI
namespace Go.Proofs.Ytciaebhkemdilaa
open Go.RowKit
set_option linter.unusedVariables false
set_option linter.unusedSimpArgs false
def DSegQ (s : ByteArray) (p n : Nat) (w : World) (e : Ending) (w' : World) : Prop :=
  Bw w w' ∧ ((firstE (fun i => segE s (p + 56 * i)) n 0 = 0 ∧ ∃ a c, e = .returned (.tuple #[.slice a n c, .int .i64 0]) ∧ w'.ownsRow w.heap.size 61 8 (.slice a n c) n (segCells ((List.range n).map fun i => segC s (p + 56 * i)))) ∨ (firstE (fun i => segE s (p + 56 * i)) n 0 ≠ 0 ∧ e = .returned (.tuple #[.slice none 0 0, .int .i64 (firstE (fun i => segE s (p + 56 * i)) n 0)])))
theorem own_bw {w w1 w2 : World} {z n : Nat} {t : TypeId} {v : Value} {xs : List Value} (h : Bw w w1) (ho : w1.ownsRow w.heap.size t z v n xs) (hg : w1.grownBy w2 v.ownBlock) : Bw w w2 := Below.trans h (own_grownJ ho hg h.size)
theorem first_is {f : Nat → Int} : ∀ {n i k : Nat}, i ≤ k → k < i + n → (∀ j, i ≤ j → j < k → f j = 0) → f k ≠ 0 → firstE f n i = f k
  | 0, i, k, h1, h2, _, _ => by omega
  | n + 1, i, k, h1, h2, h3, h4 => by
    rw [firstE]
    by_cases e : i = k
    · subst e; rw [if_pos h4]
    · rw [if_neg (by rw [h3 i (Nat.le_refl _) (by omega)]; exact fun h => h rfl)]
      exact first_is (by omega) (by omega) (fun j a b => h3 j (by omega) b) h4
set_option maxRecDepth 100000 in
set_option maxHeartbeats 8000000 in
theorem dsegments_any (s : ByteArray) (hs : s.size ≤ 100000000) (p n : Nat) (hn : n ≤ 1000) (hp : p + 56 * n ≤ s.size) (w : World) :
    Calls Try.prog 24 #[.string s, .int .i64 p, .int .i64 n] w (DSegQ s p n w) := by
  obtain ⟨i0, hinf, hz0, hz1, hz2⟩ := info_parts segKInfo
  have hl : s.size ≤ 281474976710656 := by omega
  have HGD := hid (fun e w' a c (hb : Bw w w') (h0 : firstE (fun i => segE s (p + 56 * i)) n 0 = 0) (he : e = .returned (.tuple #[.slice a n c, .int .i64 0])) (ho : w'.ownsRow w.heap.size 61 8 (.slice a n c) n (segCells ((List.range n).map fun i => segC s (p + 56 * i)))) => (show DSegQ s p n w e w' from ⟨hb, .inl ⟨h0, a, c, he, ho⟩⟩))
  have HBD := hid (fun e w' (E : Int) (hb : Bw w w') (h0 : firstE (fun i => segE s (p + 56 * i)) n 0 = E) (h1 : E ≠ 0) (he : e = .returned (.tuple #[.slice none 0 0, .int .i64 E])) => (show DSegQ s p n w e w' from ⟨hb, .inr ⟨by rw [h0]; exact h1, by rw [h0]; exact he⟩⟩))
  go_enter Try.func24, Try.ntmps24
  go_wp2
  go_loopw [8, 9] (fun vv vi wr => ∃ (j : Nat) (ao : Option Addr) (cp : Nat), j ≤ n ∧ vi = .int .i64 j ∧ vv = .slice ao j cp ∧ Hid (∀ i, i < j → segE s (p + 56 * i) = 0) ∧ wr.ownsRow w.heap.size 61 8 (.slice ao j cp) j (segCells ((List.range j).map fun i => segC s (p + 56 * i))) ∧ Bw w wr) (fun _ vi _ => n - (intOf vi).toNat)
  case atStart => exact ⟨0, none, 0, Nat.zero_le _, rfl, rfl, hid (fun i h => absurd h (Nat.not_lt_zero i)), ⟨rfl, .inl ⟨rfl, rfl⟩⟩, Bw.refl _⟩
  case round =>
    rename World => wr
    obtain ⟨j, ao, cp, hj, rfl, rfl, HA, hown, hw⟩ := hrel
    have HO := hid hown
    have HW := hid hw
    clear hown hw
    by_cases hlt : j < n
    · have hlt1 : (j : Int) < n := by omega
      obtain ⟨h, hh⟩ : ∃ h, p + 56 * j = h := ⟨_, rfl⟩
      have hB : h + 56 ≤ s.size := by omega
      have HAJ := hid (fun (E : Int) (h0 : segE s h = E) (h1 : E ≠ 0) => (show firstE (fun i => segE s (p + 56 * i)) n 0 = E from by
        have := first_is (f := fun i => segE s (p + 56 * i)) (n := n) (i := 0) (k := j) (Nat.zero_le _) (by omega) (fun i _ hi => HA.out i hi) (by show segE s (p + 56 * j) ≠ 0; rw [hh, h0]; exact h1)
        rw [this]
        show segE s (p + 56 * j) = E
        rw [hh, h0]))
      have HSE := hid (show segE s h = if great < n8 s (h + 8) ∨ great < n8 s (h + 32) then 3 else if s.size < n8 s (h + 8) + n8 s (h + 32) then 2 else 0 from rfl)
      have HSC := hid (show segC s h = ⟨n4 s h, n4 s (h + 4), n8 s (h + 8), n8 s (h + 16), n8 s (h + 24), n8 s (h + 32), n8 s (h + 40), n8 s (h + 48)⟩ from rfl)
      have HH := hid hh
      have v1 : IntKind.i64.wrap (56 * (j : Int)) = ((56 * j : Nat) : Int) := by rw [IntWalk.i64_in _ (by omega)]; omega
      have v2 : IntKind.i64.wrap ((p : Int) + ((56 * j : Nat) : Int)) = (h : Int) := by rw [IntWalk.i64_in _ (by omega)]; omega
      have v3 : IntKind.i64.wrap ((h : Int) + 56) = ((h + 56 : Nat) : Int) := by rw [IntWalk.i64_in _ (by omega)]; omega
      obtain ⟨X, hX⟩ : ∃ X, s.extract h (h + 56) = X := ⟨_, rfl⟩
      have hXz : X.size = 56 := by rw [← hX]; simp; omega
      have hXX := fun d a (ha : a + d ≤ 56) => num_part s h 56 a d ha hB
      rw [hX] at hXX
      have HXE := hid hX
      have N0 := hid (fun W => (show Calls Try.prog 22 #[.string X, .int .i64 0, .int .i64 4] W fun e w' => e = .returned (.int .u64 (n4 s h : Nat)) ∧ W = w' from by
        have q := num4_any X (by rw [hXz]; decide) 0 (by omega) W
        rw [show n4 X 0 = n4 s h from hXX 4 0 (by decide)] at q
        exact q))
      have l0 := n4_lt s h
      obtain ⟨y0, hy0⟩ : ∃ x, n4 s h = x := ⟨_, rfl⟩
      rw [hy0] at N0 l0 HSC
      have N4 := hid (fun W => (show Calls Try.prog 22 #[.string X, .int .i64 4, .int .i64 4] W fun e w' => e = .returned (.int .u64 (n4 s (h + 4) : Nat)) ∧ W = w' from by
        have q := num4_any X (by rw [hXz]; decide) 4 (by omega) W
        rw [show n4 X 4 = n4 s (h + 4) from hXX 4 4 (by decide)] at q
        exact q))
      have l4 := n4_lt s (h + 4)
      obtain ⟨y4, hy4⟩ : ∃ x, n4 s (h + 4) = x := ⟨_, rfl⟩
      rw [hy4] at N4 l4 HSC
      have N8 := hid (fun W => (show Calls Try.prog 22 #[.string X, .int .i64 8, .int .i64 8] W fun e w' => e = .returned (.int .u64 (n8 s (h + 8) : Nat)) ∧ W = w' from by
        have q := num8_any X (by rw [hXz]; decide) 8 (by omega) W
        rw [show n8 X 8 = n8 s (h + 8) from hXX 8 8 (by decide)] at q
        exact q))
      have l8 := n8_lt s (h + 8)
      obtain ⟨y8, hy8⟩ : ∃ x, n8 s (h + 8) = x := ⟨_, rfl⟩
      rw [hy8] at N8 l8 HSC HSE
      have N16 := hid (fun W => (show Calls Try.prog 22 #[.string X, .int .i64 16, .int .i64 8] W fun e w' => e = .returned (.int .u64 (n8 s (h + 16) : Nat)) ∧ W = w' from by
        have q := num8_any X (by rw [hXz]; decide) 16 (by omega) W
        rw [show n8 X 16 = n8 s (h + 16) from hXX 8 16 (by decide)] at q
        exact q))
      have l16 := n8_lt s (h + 16)
      obtain ⟨y16, hy16⟩ : ∃ x, n8 s (h + 16) = x := ⟨_, rfl⟩
      rw [hy16] at N16 l16 HSC
      have N24 := hid (fun W => (show Calls Try.prog 22 #[.string X, .int .i64 24, .int .i64 8] W fun e w' => e = .returned (.int .u64 (n8 s (h + 24) : Nat)) ∧ W = w' from by
        have q := num8_any X (by rw [hXz]; decide) 24 (by omega) W
        rw [show n8 X 24 = n8 s (h + 24) from hXX 8 24 (by decide)] at q
        exact q))
      have l24 := n8_lt s (h + 24)
      obtain ⟨y24, hy24⟩ : ∃ x, n8 s (h + 24) = x := ⟨_, rfl⟩
      rw [hy24] at N24 l24 HSC
      have N32 := hid (fun W => (show Calls Try.prog 22 #[.string X, .int .i64 32, .int .i64 8] W fun e w' => e = .returned (.int .u64 (n8 s (h + 32) : Nat)) ∧ W = w' from by
        have q := num8_any X (by rw [hXz]; decide) 32 (by omega) W
        rw [show n8 X 32 = n8 s (h + 32) from hXX 8 32 (by decide)] at q
        exact q))
      have l32 := n8_lt s (h + 32)
      obtain ⟨y32, hy32⟩ : ∃ x, n8 s (h + 32) = x := ⟨_, rfl⟩
      rw [hy32] at N32 l32 HSC HSE
      have N40 := hid (fun W => (show Calls Try.prog 22 #[.string X, .int .i64 40, .int .i64 8] W fun e w' => e = .returned (.int .u64 (n8 s (h + 40) : Nat)) ∧ W = w' from by
        have q := num8_any X (by rw [hXz]; decide) 40 (by omega) W
        rw [show n8 X 40 = n8 s (h + 40) from hXX 8 40 (by decide)] at q
        exact q))
      have l40 := n8_lt s (h + 40)
      obtain ⟨y40, hy40⟩ : ∃ x, n8 s (h + 40) = x := ⟨_, rfl⟩
      rw [hy40] at N40 l40 HSC
      have N48 := hid (fun W => (show Calls Try.prog 22 #[.string X, .int .i64 48, .int .i64 8] W fun e w' => e = .returned (.int .u64 (n8 s (h + 48) : Nat)) ∧ W = w' from by
        have q := num8_any X (by rw [hXz]; decide) 48 (by omega) W
        rw [show n8 X 48 = n8 s (h + 48) from hXX 8 48 (by decide)] at q
        exact q))
      have l48 := n8_lt s (h + 48)
      obtain ⟨y48, hy48⟩ : ∃ x, n8 s (h + 48) = x := ⟨_, rfl⟩
      rw [hy48] at N48 l48 HSC
      have hh0 : (0 : Int) ≤ (h : Int) := by omega
      have hh1 : (h : Int) ≤ ((h + 56 : Nat) : Int) := by omega
      have hh2 : ((h + 56 : Nat) : Int) ≤ (s.size : Int) := by omega
      have u0 : IntKind.i64.wrap (y0 : Int) = y0 := IntWalk.i64_in _ (by omega)
      have u4 : IntKind.i64.wrap (y4 : Int) = y4 := IntWalk.i64_in _ (by omega)
      have HST := hid (fun W => stands_any s hl y8 y32 W)
      obtain ⟨h56, hh56⟩ : ∃ x, h + 56 = x := ⟨_, rfl⟩
      rw [hh56] at v3 hh1 hh2
      have HXF := hid (show s.extract (p + 56 * j) (p + 56 * j + 56) = X from by rw [HH.out]; exact HXE.out)
      clear hX hXX hy0 hy4 hy8 hy16 hy24 hy32 hy40 hy48 hh HXE l0 l4
      go_upto_region 6 with fail
      try simp only [Int.toNat_natCast]
      rw [HXF.out]
      by_cases g1 : (1099511627776 : Int) < (y8 : Int)
      · have HE := HAJ.out 3 (by rw [HSE.out, if_pos (.inl (by unfold great; omega))]) (by decide)
        have HE3 := hid HE
        clear HE
        go_wp2_with (go_at_call 22; with_reducible (first | refine (N8.out _).mono ?_ | refine (N32.out _).mono ?_); rintro e w2 ⟨rfl, rfl⟩)
        go_returns
        exact HBD.out _ _ 3 HW.out HE3.out (by decide) rfl
      by_cases g2 : (1099511627776 : Int) < (y32 : Int)
      · have HE := HAJ.out 3 (by rw [HSE.out, if_pos (.inr (by unfold great; omega))]) (by decide)
        have HE3 := hid HE
        clear HE
        go_wp2_with (go_at_call 22; with_reducible (first | refine (N8.out _).mono ?_ | refine (N32.out _).mono ?_); rintro e w2 ⟨rfl, rfl⟩)
        go_returns
        exact HBD.out _ _ 3 HW.out HE3.out (by decide) rfl
      have u8 : IntKind.i64.wrap (y8 : Int) = y8 := IntWalk.i64_in _ (by omega)
      have u32 : IntKind.i64.wrap (y32 : Int) = y32 := IntWalk.i64_in _ (by omega)
      by_cases g3 : y8 + y32 ≤ s.size
      case neg =>
        have HE3 := hid (HAJ.out 2 (by rw [HSE.out, if_neg (by unfold great; omega), if_pos (by omega)]) (by decide))
        rw [decide_eq_false g3] at HST
        clear g3
        go_wp2_with (first | (go_at_call 22; with_reducible (first | refine (N8.out _).mono ?_ | refine (N32.out _).mono ?_); rintro e w2 ⟨rfl, rfl⟩) | (go_at_call 23; refine (HST.out _).mono ?_; rintro e w2 ⟨rfl, rfl⟩))
        go_returns
        exact HBD.out _ _ 2 HW.out HE3.out (by decide) rfl
      have HE0 := hid (show segE s h = 0 from by rw [HSE.out, if_neg (by unfold great; omega), if_neg (by omega)])
      rw [decide_eq_true g3] at HST
      have HBA := hid ((Bw.refl wr).alloc (.cells #[.int .i64 y0, .int .i64 y4, .int .i64 y8, .int .u64 y16, .int .u64 y24, .int .i64 y32, .int .u64 y40, .int .u64 y48] 61))
      clear g3
      go_wp2_with (first | (go_at_call 22; with_reducible (first | refine (N8.out _).mono ?_ | refine (N32.out _).mono ?_ | refine (N0.out _).mono ?_ | refine (N4.out _).mono ?_ | refine (N16.out _).mono ?_ | refine (N24.out _).mono ?_ | refine (N40.out _).mono ?_ | refine (N48.out _).mono ?_); rintro e w2 ⟨rfl, rfl⟩) | (go_at_call 23; refine (HST.out _).mono ?_; rintro e w2 ⟨rfl, rfl⟩) | (at_builtin; refine wpList_app1 rfl _ _ 24 rfl w.heap.size 61 i0 (.agg #[.int .i64 0, .int .i64 0, .int .i64 0, .int .u64 0, .int .u64 0, .int .i64 0, .int .u64 0, .int .u64 0]) 8 64 Try.underlying24 hinf hz0 hz1 hz2 rfl (by decide) (.slice ao j cp) j _ rfl (HBA.out.own HO.out) wr.heap.size #[.int .i64 y0, .int .i64 y4, .int .i64 y8, .int .u64 y16, .int .u64 y24, .int .i64 y32, .int .u64 y40, .int .u64 y48] rfl (Has.new wr _ _) rfl (by intro u hu; simp at hu; rcases hu with rfl | rfl | rfl | rfl | rfl | rfl | rfl | rfl <;> rfl) (by unfold maxLen; omega) (by omega) (Nat.le_trans HW.out.size (by simp)) ?_; intro ao8 cp8 w8 hown8 hgrow8; have HO8 := hid hown8; have HB8 := hid (show Bw w w8 from own_bw (HW.out.trans HBA.out) (HBA.out.own HO.out) hgrow8); clear hown8 hgrow8))
      exact ⟨⟨j + 1, ao8, cp8, by omega, by go_num, rfl, hid (fun i hi => by
        by_cases e : i = j
        · subst e; rw [HH.out]; exact HE0.out
        · exact HA.out i (by omega)), by
        rw [List.range_succ, List.map_append, segCells_app]
        have q := HO8.out
        rw [show List.map (fun i => segC s (p + 56 * i)) [j] = [(⟨y0, y4, y8, y16, y24, y32, y40, y48⟩ : SegR)] from by rw [List.map_cons, List.map_nil, HH.out, HSC.out]]
        exact q, HB8.out⟩, by simp [intOf]; omega⟩
    · obtain rfl : n = j := by omega
      have HE := hid (show firstE (fun i => segE s (p + 56 * i)) n 0 = 0 from first_all fun i _ hi => HA.out i (by omega))
      go_wp2
      go_returns
      exact HGD.out _ _ ao cp HW.out HE.out rfl HO.out
end Go.Proofs.Ytciaebhkemdilaa

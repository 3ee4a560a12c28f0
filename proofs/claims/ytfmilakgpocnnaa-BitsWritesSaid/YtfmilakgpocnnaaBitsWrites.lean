/- BitsWrites returns true for every list of ops, and changes nothing that was there; no condition. -/
import Derived.Test.YtfmilakgpocnnaaOpKit
import Derived.Test.YtfmilakgpocnnaaBitL
import Derived.Test.YtfmilakgpocnnaaBitZC
import Derived.Deep.RegionHeld3
import Derived.SizedLaws
import Derived.ProofKit
import Derived.OpenShut
import Derived.ShutString
import Derived.ChangeOld
namespace Go.Proofs.Ytfmilakgpocnnaa.bitsWrites
open Go.RowKit Go.ChangeShapes Go.WideShapes Go.ChangeAt
set_option linter.unusedVariables false

/-- What both writers hold. -/
structure Both (w : World) (F1 F2 : Nat → Prop) (k N : Nat) (wr : World) : Prop where
  a : WrF F1 wr w.heap.size k N
  b : ZrF F2 wr (w.heap.size + 1) k N
  apart : ∀ i, F1 i → ¬ F2 i
  new1 : ∀ i, F1 i → w.heap.size ≤ i
  new2 : ∀ i, F2 i → w.heap.size ≤ i
  bel : Below w.heap.size w wr
theorem Both.lt1 {w wr : World} {F1 F2 : Nat → Prop} {k N : Nat} (h : Both w F1 F2 k N wr) : ∀ i, F1 i → i < wr.heap.size := h.a.choose_spec.2.2.2.2
theorem Both.lt2 {w wr : World} {F1 F2 : Nat → Prop} {k N : Nat} (h : Both w F1 F2 k N wr) : ∀ i, F2 i → i < wr.heap.size := h.b.choose_spec.2.2.2.2
/-- Only new blocks since. -/
theorem Both.keep {w wr w' : World} {F1 F2 : Nat → Prop} {k N : Nat} (h : Both w F1 F2 k N wr) (hk : Below wr.heap.size wr w') : Both w F1 F2 k N w' :=
  have hK : Keeps (fun _ => False) wr w' := Keeps.of_bw hk
  ⟨h.a.keep hK (fun _ _ h => h), h.b.keep hK (fun _ _ h => h), h.apart, h.new1, h.new2, h.bel.trans (Below.mono hk h.bel.size)⟩
/-- Each writer did the same. -/
theorem Both.step {w wr w2 w3 : World} {F1 F2 G1 G2 : Nat → Prop} {k N k' N' : Nat} (h : Both w F1 F2 k N wr) (h1 : WrF G1 w2 w.heap.size k' N') (h2 : Keeps F1 wr w2) (h3 : ∀ i, G1 i → F1 i ∨ wr.heap.size ≤ i)
    (k1 : ZrF G2 w3 (w.heap.size + 1) k' N') (k2 : Keeps F2 w2 w3) (k3 : ∀ i, G2 i → F2 i ∨ w2.heap.size ≤ i) : Both w G1 G2 k' N' w3 := by
  have hz := h.bel.size
  have hz2 := h2.size
  have hl := h1.choose_spec.2.2.2.2
  have d1 : ∀ i, G1 i → ¬ F2 i := fun i hi hf => by
    rcases h3 i hi with h4 | h4
    · exact h.apart i h4 hf
    · have := h.lt2 i hf; omega
  refine ⟨h1.keep k2 d1, k1, fun i hi hf => ?_, fun i hi => ?_, fun i hi => ?_, (h.bel.trans (h2.below hz h.new1)).trans (k2.below (by omega) h.new2)⟩
  · rcases k3 i hf with h4 | h4
    · exact d1 i hi h4
    · have := hl i hi; omega
  · rcases h3 i hi with h4 | h4
    · exact h.new1 i h4
    · omega
  · rcases k3 i hi with h4 | h4
    · exact h.new2 i h4
    · omega
set_option maxRecDepth 100000 in
set_option maxHeartbeats 4000000 in
theorem walk (a : Option Addr) (len cap : Nat) (hlen : len ≤ 9223372036854775807) (l : List OpR) (hll : Hid (l.length = len)) (w : World) (hops : OpsAt w a l) :
    Calls Try.prog 4 #[.slice a len cap] w fun e w' => e = .returned (.bool true) ∧ Bw w w' := by
  have HOPS := hid hops
  clear hops
  go_enter Try.func4, Try.ntmps4
  go_wp2
  go_loopw [5] (fun i wr => ∃ j k N : Nat, ∃ F1 F2 : Nat → Prop, j ≤ len ∧ j ≤ 100 ∧ i = .int .i64 j ∧ k ≤ 2000 * j ∧ Both w F1 F2 k N wr) (fun i _ => len - (intOf i).toNat)
  case atStart =>
    have hn : Has ((w.alloc (.cells #[.int .i64 0, .slice none 0 0, .int .u8 0] 43)).alloc (.cells #[.slice none 0 0] 46)) (w.heap.size + 1) 46 #[.slice none 0 0] := by
      have := Has.new (w.alloc (.cells #[.int .i64 0, .slice none 0 0, .int .u8 0] 43)) 46 #[.slice none 0 0]
      simpa using this
    exact ⟨0, 0, 0, (· = w.heap.size), (· = w.heap.size + 1), Nat.zero_le _, Nat.zero_le _, rfl, Nat.zero_le _, ⟨WrF.fresh ((Has.new w _ _).alloc _), ZrF.fresh hn, fun i h1 h2 => by omega, fun i h => by omega, fun i h => by omega, ((Below.refl _ w).alloc (Nat.le_refl _) _).alloc (by simp) _⟩⟩
  case round =>
    rename_i wr
    obtain ⟨j, k, N, F1, F2, hj, hj100, rfl, hk, hB⟩ := hrel
    have HB := hid hB
    clear hB
    by_cases hlt : j < len ∧ j < 100
    · obtain ⟨hl1, hl2⟩ := hlt
      obtain ⟨b, off, rfl, hb, c0, c1, c2, c3, hv⟩ := HOPS.out.below HB.out.bel j (by rw [hll.out]; exact hl1)
      obtain ⟨d, v, n, t, hx⟩ : ∃ d v n t, l[j]'(by rw [hll.out]; exact hl1) = ⟨d, v, n, t⟩ := ⟨_, _, _, _, rfl⟩
      rw [hx] at c0 c1 c2 c3 hv
      have hv : v < 4294967296 := hv
      simp only at c0 c1 c2 c3
      clear hx
      have hW0 : Has (wr.alloc (.cells #[.int .i64 d, .int .u32 v, .int .i64 n, .string t] 30)) wr.heap.size 30 #[.int .i64 d, .int .u32 v, .int .i64 n, .string t] := Has.new wr _ _
      have HB0 := hid (HB.out.keep ((Below.refl _ wr).alloc (Nat.le_refl _) (.cells #[.int .i64 d, .int .u32 v, .int .i64 n, .string t] 30)))
      have o3 := hW0.cell 3
      have HW0 := hid hW0
      clear hW0
      by_cases hts : 200 < t.size
      · have hend : Bw w (wr.alloc (.cells #[.int .i64 d, .int .u32 v, .int .i64 n, .string t] 30)) := HB0.out.bel
        clear o3
        go_wp2_with fail
        refine (live_any _).mono ?_
        rintro e w9 ⟨rfl, h9⟩
        go_wp2
        go_returns
        exact ⟨rfl, hend.trans h9⟩
      have o3 : (wr.alloc (.cells #[.int .i64 d, .int .u32 v, .int .i64 n, .string t] 30)).cell? ⟨wr.heap.size, 3, none⟩ = some (.string t) := o3
      by_cases hd1 : d = 1
      · subst hd1
        go_wp2_with fail
        refine (walign_any F1 _ k N (by omega) _ HB0.out.a).mono ?_
        rintro e w2 ⟨rfl, G1, hw2, hk2, hf2⟩
        go_wp2_with fail
        refine (zalign_any F2 _ k N (by omega) _ (HB0.out.b.keep hk2 (fun i h h2 => HB0.out.apart i h2 h))).mono ?_
        rintro e w3 ⟨rfl, G2, hw3, hk3, hf3⟩
        have HB3 := hid (HB0.out.step hw2 hk2 hf2 hw3 hk3 hf3)
        
        clear hw2 hk2 hf2 hw3 hk3 hf3
        obtain ⟨dv3, _, _, hz3, _, _⟩ := HB3.out.b
        obtain ⟨ao3, cap3, rfl⟩ := own_slice hz3.row
        have y0 := hz3.blk.cell 0
        have HLEN := hid (fun (z : Nat) => quiet_flip (wlen_any G1 w.heap.size _ _ (w3.drewN z) (HB3.out.a.keep ((Keeps.refl (fun _ => False) w3).drewN z) (fun _ _ h => h))))
        clear hz3
        have hk9 : upK k ≤ 2000 * (j + 1) := by unfold upK; omega
        generalize upK k = kk at *
        have y0 : w3.cell? ⟨w.heap.size + 1, 0, none⟩ = some (.slice ao3 kk cap3) := y0
        go_wp2_with fail
        go_quiet ((go_at_call 29; exact Calls.quiet_of_same (HLEN.out _)))
        go_wp2
        go_roundw
        case rel => exact ⟨j + 1, kk, _, G1, G2, by omega, by omega, by go_num, hk9, HB3.out.keep (below_drewN (Below.refl _ _) _)⟩
        case measure => simp [intOf]; omega
      · have t1 : (d == 1) = false := by simpa using hd1
        by_cases hd2 : d = 2
        · subst hd2
          go_wp2_with fail
          refine (wadd_any F1 _ k N t (by omega) _ HB0.out.a).mono ?_
          rintro e w2 ⟨rfl, G1, hw2, hk2, hf2⟩
          have o2b : w2.cell? ⟨wr.heap.size, 3, none⟩ = some (.string t) := (World.cell?_of_block (hk2.block wr.heap.size (by simp) (fun h => by have := HB.out.lt1 _ h; omega))).trans o3
          go_wp2_with fail
          refine (zadd_any F2 _ k N t (by omega) _ (HB0.out.b.keep hk2 (fun i h h2 => HB0.out.apart i h2 h))).mono ?_
          rintro e w3 ⟨rfl, G2, hw3, hk3, hf3⟩
          have HB3 := hid (HB0.out.step hw2 hk2 hf2 hw3 hk3 hf3)
          
          clear hw2 hk2 hf2 hw3 hk3 hf3
          obtain ⟨dv3, _, _, hz3, _, _⟩ := HB3.out.b
          obtain ⟨ao3, cap3, rfl⟩ := own_slice hz3.row
          have y0 := hz3.blk.cell 0
          have HLEN := hid (fun (z : Nat) => quiet_flip (wlen_any G1 w.heap.size _ _ (w3.drewN z) (HB3.out.a.keep ((Keeps.refl (fun _ => False) w3).drewN z) (fun _ _ h => h))))
          clear hz3
          have hk9 : upK k + 8 * t.size ≤ 2000 * (j + 1) := by unfold upK; omega
          generalize upK k + 8 * t.size = kk at *
          have y0 : w3.cell? ⟨w.heap.size + 1, 0, none⟩ = some (.slice ao3 kk cap3) := y0
          go_wp2_with fail
          go_quiet ((go_at_call 29; exact Calls.quiet_of_same (HLEN.out _)))
          go_wp2
          go_roundw
          case rel => exact ⟨j + 1, kk, _, G1, G2, by omega, by omega, by go_num, hk9, HB3.out.keep (below_drewN (Below.refl _ _) _)⟩
          case measure => simp [intOf]; omega
        · have t2 : (d == 2) = false := by simpa using hd2
          have p1 := HW0.out.cell 1
          have p2 := HW0.out.cell 2
          have p1 : (wr.alloc (.cells #[.int .i64 d, .int .u32 v, .int .i64 n, .string t] 30)).cell? ⟨wr.heap.size, 1, none⟩ = some (.int .u32 v) := p1
          have p2 : (wr.alloc (.cells #[.int .i64 d, .int .u32 v, .int .i64 n, .string t] 30)).cell? ⟨wr.heap.size, 2, none⟩ = some (.int .i64 n) := p2
          have hoF1 : ¬ F1 wr.heap.size := fun h => by have := HB.out.lt1 _ h; omega
          have hoF2 : ¬ F2 wr.heap.size := fun h => by have := HB.out.lt2 _ h; omega
          have hol := HW0.out.lt
          go_wp2_with fail
          clear HW0 o3 c0 c1 c2 c3
          generalize wr.alloc (.cells #[.int .i64 d, .int .u32 v, .int .i64 n, .string t] 30) = W0 at *
          generalize wr.heap.size = oo at *
          have HB1 : Hid (Both w F1 F2 k N W0.drew) := hid (HB0.out.keep (below_drewN (Below.refl _ _) 1))
          have HNF1 := hid hoF1
          have HNF2 := hid hoF2
          clear hoF1 hoF2
          have p1 : W0.drew.cell? ⟨oo, 1, none⟩ = some (.int .u32 v) := p1
          have p2 : W0.drew.cell? ⟨oo, 2, none⟩ = some (.int .i64 n) := p2
          have hol : oo < W0.drew.heap.size := hol
          go_region_held3 (fun w' => w'.cell? ⟨oo, 1, none⟩ = some (.int .u32 v) ∧ w'.cell? ⟨oo, 2, none⟩ = some (.int .i64 n)) (first | exact ⟨p1, p2⟩ | exact ⟨s1, s2⟩ | exact ⟨r1, r2⟩ | exact ⟨by assumption, by assumption⟩)
            (first
              | (go_at_call 27; refine (put_any F1 _ k N (by omega) v hv n _ HB1.out.a).mono ?_; rintro e w2 ⟨rfl, G1, hw2, hk2, hf2⟩; have s1 : w2.cell? ⟨oo, 1, none⟩ = some (.int .u32 v) := (World.cell?_of_block (hk2.block oo hol HNF1.out)).trans p1; have s2 : w2.cell? ⟨oo, 2, none⟩ = some (.int .i64 n) := (World.cell?_of_block (hk2.block oo hol HNF1.out)).trans p2; have HH2 := hid hw2; have HK2 := hid hk2; have HF2 := hid hf2; clear hw2 hk2 hf2)
              | (go_at_call 28; refine (zput_any F2 _ k N (by omega) v hv n _ (HB1.out.b.keep HK2.out (fun i h h2 => HB1.out.apart i h2 h))).mono ?_; rintro e w3 ⟨rfl, G2, hw3, hk3, hf3⟩; have r1 : w3.cell? ⟨oo, 1, none⟩ = some (.int .u32 v) := (World.cell?_of_block (hk3.block oo (Nat.lt_of_lt_of_le hol HK2.out.size) HNF2.out)).trans s1; have r2 : w3.cell? ⟨oo, 2, none⟩ = some (.int .i64 n) := (World.cell?_of_block (hk3.block oo (Nat.lt_of_lt_of_le hol HK2.out.size) HNF2.out)).trans s2; have HH3 := hid hw3; have HK3 := hid hk3; have HF3 := hid hf3; clear hw3 hk3 hf3))
          have HB3 := hid (HB1.out.step HH2.out HK2.out HF2.out HH3.out HK3.out HF3.out)
          clear s1 s2 r1 r2 p1 p2 hol
          obtain ⟨dv3, _, _, hz3, _, _⟩ := HB3.out.b
          obtain ⟨ao3, cap3, rfl⟩ := own_slice hz3.row
          have y0 := hz3.blk.cell 0
          have HLEN := hid (fun (z : Nat) => quiet_flip (wlen_any G1 w.heap.size _ _ (w3.drewN z) (HB3.out.a.keep ((Keeps.refl (fun _ => False) w3).drewN z) (fun _ _ h => h))))
          clear hz3
          have hk9 : putK k v n ≤ 2000 * (j + 1) := by
            unfold putK
            split
            · rename_i hp
              unfold putB at hp
              rw [Bool.and_eq_true] at hp
              have := cntB_true hp.1
              omega
            · omega
          generalize putK k v n = kk at *
          generalize putE v n = ee at *
          have y0 : w3.cell? ⟨w.heap.size + 1, 0, none⟩ = some (.slice ao3 kk cap3) := y0
          go_wp2_with fail
          go_quiet ((go_at_call 29; exact Calls.quiet_of_same (HLEN.out _)))
          go_wp2
          go_roundw
          case rel => exact ⟨j + 1, kk, _, G1, G2, by omega, by omega, by go_num, hk9, HB3.out.keep (below_drewN (Below.refl _ _) _)⟩
          case measure => simp [intOf]; omega
  
    · have hor : (¬ j < len) ∨ (j < len ∧ ¬ j < 100) := by omega
      have hk3 : k ≤ 200000 := by omega
      have hend : Bw w wr := HB.out.bel
      have hst := wstr_any F1 w.heap.size k N (by omega) wr HB.out.a
      have HST : Hid (∀ W, Below wr.heap.size wr W → Calls Try.prog 30 #[.pointer (some ⟨w.heap.size, 0, none⟩)] W fun e w' => e = .returned (.string (strN N ((k + 7) / 8))) ∧ Bw W w') := hid fun W h => wstr_any F1 w.heap.size k N (by omega) W (HB.out.keep h).a
      have HZT : Hid (∀ W, Below wr.heap.size wr W → Calls Try.prog 31 #[.pointer (some ⟨w.heap.size + 1, 0, none⟩)] W fun e w' => e = .returned (.string (strN N ((k + 7) / 8))) ∧ Bw W w') := hid fun W h => zstr_any F2 (w.heap.size + 1) k N (by omega) W (HB.out.keep h).b
      generalize strN N ((k + 7) / 8) = str at *
      clear hst hj hlt hj100
      rcases hor with h | ⟨h, h'⟩
      all_goals
        go_wp2_with fail
        refine (HST.out _ (Below.refl _ _)).mono ?_
        rintro e w2 ⟨rfl, hb2⟩
        have B2 : Below wr.heap.size wr w2 := hb2
        go_wp2_with fail
        refine (HZT.out _ B2).mono ?_
        rintro e w3 ⟨rfl, hb3⟩
        have B3 : Below wr.heap.size wr w3 := B2.trans (Below.mono hb3 B2.size)
        go_wp2_with fail
        refine (HST.out _ B3).mono ?_
        rintro e w4 ⟨rfl, hb4⟩
        have B4 : Below wr.heap.size wr w4 := B3.trans (Below.mono hb4 B3.size)
        go_wp2_with fail
        refine (HZT.out _ B4).mono ?_
        rintro e w5 ⟨rfl, hb5⟩
        have B5 : Below wr.heap.size wr w5 := B4.trans (Below.mono hb5 B4.size)
        go_wp2_with fail
        refine (live_any _).mono ?_
        rintro e w9 ⟨rfl, h9⟩
        go_wp2
        go_returns
        exact ⟨rfl, (hend.trans B5).trans h9⟩

/-! The frame: from the walk to the statement. -/
theorem own : ownKnob Try.prog.godebug = none := by kernel_rfl
theorem laidOut : laidOutB Try.prog = true := by kernel_rfl
set_option maxRecDepth 100000 in
theorem lifted (os : Os) (started : os.Started) (H : Type) (enc : TypeId × Value → H) :
    ReturnsInHanded {} Try.checked os 4 .any (Rows.bitsWritesSpec.pre6 enc Try.prog Try.f4 Rows.bitsWritesRow.domain false) (Rows.bitsWritesSpec.post enc Try.prog Try.f4 false true false false) := by
  refine returnsInHanded_of_change_sized (C := Try.checked) own started (by kernel_rfl) Try.func4
    (ChangeSpec.witness6 (enc := enc) (C := Try.checked) false ⟨#[], #[.slice none 0 0], []⟩ 8 (by kernel_rfl) (by kernel_rfl) (by kernel_rfl) (by kernel_rfl)) ?_
  intro W base args ds gs before hval0 hW hcnd hsz0 _
  have hval : ∀ (j : Nat) t v, Try.f4.params[j]? = some t → args[j]? = some v → Value.okWide Try.prog W .any base t v := hval0
  have hW' := hW
  obtain ⟨p, q, hA0, hV, rfl, hfz, hnd⟩ := hW
  have hA : DataW.TrodAll enc Try.prog W 0 (fun _ => true) true Try.f4.params.toList args.toList ds p := hA0
  have hsz : (DataW.weightsEach Try.prog (Try.f4.params.toList ++ Rows.bitsWritesSpec.plain.varTypes Try.prog) (ds ++ gs)).all (· ≤ reachBytes) = true := hsz0
  rw [Try.params4] at hA hval hsz
  obtain ⟨v0, vs0, d0, ds0, p0, q0, hargs, rfl, rfl, h0, r0⟩ := trodAll_cons hA
  obtain ⟨rfl, rfl, rfl⟩ := trodAll_nil r0
  obtain rfl : args = #[v0] := by cases args; simp_all
  obtain ⟨rfl, rfl⟩ := trodVars_none hV
  have k0 := h0
  have lt0 : ∀ x ∈ p0, x.block < W.heap.size := by obtain ⟨m, hm⟩ := k0; exact DataW.trod_lt m _ _ _ hm
  obtain ⟨oa0, ol0, oc0, rfl⟩ := okWide_slice Try.underlying22 (hval 0 22 v0 rfl rfl)
  obtain ⟨m0, t0⟩ := h0
  obtain ⟨A0, len0, cap0, l0, he0, hl0, hll0, hst0⟩ := open_ops t0
  rw [he0] at hW' k0 ⊢
  clear hA0 hval0
  try simp only [List.append_nil] at hW'
  refine (walk A0 len0 cap0 hl0 l0 hll0 W hst0).mono fun e W' ⟨he, bel⟩ => ?_
  subst he
  exact ⟨_, rfl, _, _, _, [], _, [], hW', trodAll_mk1 (shut_bool Try.underlying4 _), (trodAll_cons_mk (Below.trod laidOut (by kernel_rfl) (of_decide_eq_true (by kernel_rfl)) k0 bel lt0) trodAll_mk0), rfl, Below.frame bel _, fun h => by cases h⟩

theorem proved : Rows.BitsWritesSaid :=
  OpenClaim.holds_of_wide 4 Try.f4 rfl rfl rfl rfl rfl rfl rfl ⟨rfl, rfl, rfl, rfl, rfl⟩ rfl rfl rfl rfl rfl (by kernel_rfl) Try.func4 (by kernel_rfl)
    (of_decide_eq_true (by kernel_rfl)) (by unfold Func.isWrapper; first | (rw [if_pos (by decide +kernel)]; kernel_rfl) | (rw [if_neg (by decide +kernel)]; exact ⟨rfl, rfl⟩))
    (fun os started H enc _ => lifted os started H enc)
end Go.Proofs.Ytfmilakgpocnnaa.bitsWrites

/- What String of the document's writer returns (contracts of the functions). -/
import Derived.Test.YtfmilakgpocnnaaBitZB
import Derived.Test.YtfmilakgpocnnaaWinM
namespace Go.Proofs.Ytfmilakgpocnnaa
open Go.RowKit
set_option linter.unusedVariables false

/-- Byte j of the first i bits. -/
def zf (N i j : Nat) : Int := ((hiN (N % 2 ^ i) j % 256 : Nat) : Int)
theorem mod_succ (N i : Nat) : N % 2 ^ (i + 1) = N % 2 ^ i + 2 ^ i * (N / 2 ^ i % 2) := mod_split N i 1
theorem zf_low (N i j : Nat) (h : 8 * (j + 1) ≤ i) : zf N (i + 1) j = zf N i j := by
  unfold zf
  rw [mod_succ]
  have e : (N % 2 ^ i + 2 ^ i * (N / 2 ^ i % 2)) % 2 ^ (8 * (j + 1)) = (N % 2 ^ i) % 2 ^ (8 * (j + 1)) := by
    rw [show 2 ^ i = 2 ^ (8 * (j + 1)) * 2 ^ (i - 8 * (j + 1)) by rw [← Nat.pow_add]; congr 1; omega, Nat.mul_assoc, Nat.add_mul_mod_self_left]
  rw [byte_cong e (Nat.lt_succ_self j)]
theorem zf_high (N i j : Nat) (h : i ≤ 8 * j) : zf N i j = 0 := by
  unfold zf
  rw [leN_zero_of (Nat.mod_lt N (Nat.two_pow_pos i)) j h]
  rfl
theorem zf_at (N i : Nat) : hiN (N % 2 ^ i) (i / 8) < 2 ^ (i % 8) := open_lt (Nat.mod_lt _ (Nat.two_pow_pos _))
theorem zf_next (N i : Nat) : zf N (i + 1) (i / 8) = zf N i (i / 8) + ((N / 2 ^ i % 2 * 2 ^ (i % 8) : Nat) : Int) ∧ 0 ≤ zf N i (i / 8) ∧ zf N i (i / 8) + ((N / 2 ^ i % 2 * 2 ^ (i % 8) : Nat) : Int) < 256 := by
  have h1 := zf_at N i
  have hp := pow_le_128 (Nat.mod_lt i (show 0 < 8 by decide))
  have h2 : hiN (N % 2 ^ (i + 1)) (i / 8) = hiN (N % 2 ^ i) (i / 8) + N / 2 ^ i % 2 * 2 ^ (i % 8) := by
    unfold hiN
    rw [mod_succ, Nat.mul_comm (2 ^ i), lay_open]
  have h3 : N / 2 ^ i % 2 * 2 ^ (i % 8) ≤ 2 ^ (i % 8) := by
    have : N / 2 ^ i % 2 ≤ 1 := by omega
    calc N / 2 ^ i % 2 * 2 ^ (i % 8) ≤ 1 * 2 ^ (i % 8) := Nat.mul_le_mul_right _ this
      _ = _ := Nat.one_mul _
  unfold zf
  rw [h2]
  omega
theorem zfill_step (N d i : Nat) : (fill d (zf N i)).setIfInBounds (i / 8) (.int .u8 (zf N (i + 1) (i / 8))) = fill d (zf N (i + 1)) := by
  rw [fill_set]
  refine fill_congr fun j hj => ?_
  by_cases e : j = i / 8
  · subst e; simp
  · rw [if_neg e]
    by_cases l : j < i / 8
    · exact (zf_low N i j (by omega)).symm
    · rw [zf_high N i j (by omega), zf_high N (i + 1) j (by omega)]
theorem zval (N i : Nat) : IntKind.u8.wrap (zf N i (i / 8) + IntKind.u8.wrap (((N / 2 ^ i % 2 : Nat) : Int) * 2 ^ (i % 8))) = zf N (i + 1) (i / 8) := by
  obtain ⟨h1, h2, h3⟩ := zf_next N i
  have e : (((N / 2 ^ i % 2 : Nat) : Int) * 2 ^ (i % 8)) = ((N / 2 ^ i % 2 * 2 ^ (i % 8) : Nat) : Int) := by simp
  rw [e, IntKind.wrap_u8', IntKind.wrap_u8', h1]
  omega
set_option maxRecDepth 100000 in
set_option maxHeartbeats 2000000 in
theorem zstr_any (F : Nat → Prop) (g k N : Nat) (hk : k ≤ 1000000000) (w : World) (h : ZrF F w g k N) :
    Calls Try.prog 31 #[.pointer (some ⟨g, 0, none⟩)] w fun e w' => e = .returned (.string (strN N ((k + 7) / 8))) ∧ Bw w w' := by
  obtain ⟨i0, hi, hz0, hz1, hz2⟩ := info_parts byteInfo
  obtain ⟨dv, hFg, hFd, hB, hN, hlt⟩ := h
  obtain ⟨ao, cap, rfl⟩ := own_slice hB.row
  obtain ⟨d, hd⟩ : ∃ d, (k + 7) / 8 = d := ⟨_, rfl⟩
  have hd2 : ((k : Int) + 7) / 8 = d := by omega
  have hd9 : d ≤ 1000000000 := by omega
  have hmk := fun (w : World) => run_make (P := Try.prog) w 41 5 i0 (.int .u8 0) Try.underlying41 hi hz0 .i64 .i64 (d : Int) (d : Int) (by omega) (by omega) (by rw [hz2]; omega) (by omega)
  rw [hd]
  have HD := hid hd
  have HB := hid hB
  have HN := hid hN
  have e0 : w.cell? ⟨g, 0, none⟩ = some (.slice ao k cap) := HB.out.blk.cell 0
  clear hd hB hN hFd hlt hFg
  go_enter Try.func31, Try.ntmps31
  go_wp2
  clear hmk hd2
  have hfz := fill_zero d
  go_loopw [4] (fun i wr => ∃ j : Nat, j ≤ k ∧ i = .int .i64 j ∧ Has wr w.heap.size 5 (fill d (zf N j)) ∧ Below w.heap.size w wr) (fun i _ => k - (intOf i).toNat)
  case atStart =>
    refine ⟨0, Nat.zero_le _, rfl, ?_, (Below.refl _ w).alloc (Nat.le_refl _) _⟩
    have e : fill d (zf N 0) = fill d fun _ => 0 := fill_congr fun j _ => zf_high N 0 j (by omega)
    rw [e, ← hfz]
    exact Has.new w _ _
  case round =>
    rename_i wr
    obtain ⟨j, hj, rfl, hO, hbel⟩ := hrel
    have HO := hid hO
    have HBE := hid hbel
    clear hO hbel hfz
    have hg0 := HB.out.blk.lt
    have d0 : wr.cell? ⟨g, 0, none⟩ = some (.slice ao k cap) := (World.cell?_of_block (HBE.out.block g hg0)).trans e0
    by_cases hlt : j < k
    · have hrow : wr.ownsRow 0 5 1 (.slice ao k cap) k (bitCells N k) := own_keep HB.out.row fun b hb => HBE.out.block b (own_lt HB.out.row hb)
      obtain ⟨gb, rfl⟩ : ∃ gb, ao = some ⟨gb, 0, none⟩ := by
        rcases hrow.2 with ⟨h1, h2⟩ | ⟨g', cap', cur, h1, _⟩
        · omega
        · injection h1 with e1; exact ⟨g', e1⟩
      have hbitc : wr.cell? ⟨gb, j, none⟩ = some (.int .u8 ((N / 2 ^ j % 2 : Nat) : Int)) := by
        have := hrow.cells (g := gb) rfl j _ (bitCells_get N k j hlt)
        have ha : (Addr.add ⟨gb, 0, none⟩ j) = ⟨gb, j, none⟩ := by
          unfold Addr.add; by_cases hz : j = 0 <;> simp [hz]
        rwa [ha] at this
      obtain ⟨q, hq⟩ : ∃ q, j / 8 = q := ⟨_, rfl⟩
      obtain ⟨r, hr⟩ : ∃ r, j % 8 = r := ⟨_, rfl⟩
      have hq2 : (j : Int) / 8 = q := by omega
      have hr2 : (j : Int) % 8 = r := by omega
      have hqd : q < d := by have := HD.out; omega
      have hz := zval N j
      have hst := zfill_step N d j
      obtain ⟨_, hz1, hz2⟩ := zf_next N j
      rw [hq] at hz hst hz1
      rw [hr] at hz
      have hoc : wr.cell? ⟨w.heap.size, q, none⟩ = some (.int .u8 (zf N j q)) := by rw [HO.out.cell q, fill_get d _ q hqd]
      have hof := HO.out.frozen q
      generalize zf N j q = zq at *
      generalize N / 2 ^ j % 2 = bt at *
      have HST := hid hst
      have HZ := hid hz
      have hr8 : r < 8 := by omega
      have HRR := hid hr
      have ew : IntKind.i64.wrap (q : Int) = q := IntWalk.i64_in _ (by omega)
      have er : IntKind.i64.wrap (r : Int) = r := IntWalk.i64_in _ (by omega)
      have qd : (q : Int) < d := by omega
      clear hq hr hst hz hz2 hrow
      go_wp2_with fail
      refine wp_region_still_tail 21 (by kernel_rfl) (by kernel_rfl) ?_
      simp only [List.take_succ_cons, List.take_zero, List.drop_succ_cons, List.drop_zero]
      repeat still_step
      refine wpStill_nil ?_
      change wpList _ _ _ _ _ wr.drew
      have hO2 : Has wr.drew w.heap.size 5 (fill d (zf N j)) := HO.out.drew
      have hB2 : Below w.heap.size w wr.drew := HBE.out.drew
      generalize wr.drew = W1 at *
      have HO2 := hid hO2
      have HB2 := hid hB2
      have hoc2 := HO2.out.cell q
      have hfc := fill_get d (zf N j) q hqd
      rw [hfc] at hoc2
      have hof2 := HO2.out.frozen q
      clear hO2 hB2 ew er hoc hof hbitc d0 hfc
      go_wp2
      go_roundw
      case rel =>
        refine ⟨j + 1, by omega, by go_num, ?_, HB2.out.setCell (p := ⟨w.heap.size, q, none⟩) (Nat.le_refl _) _⟩
        have he : ((zq + (bt : Int) * 2 ^ min (j % 8) 8) % 256) = zf N (j + 1) q := by
          rw [HRR.out, Nat.min_eq_left (by omega), ← HZ.out, IntKind.wrap_u8', IntKind.wrap_u8']
          omega
        rw [← HST.out, he]
        exact HO2.out.put q _
      case measure => simp [intOf]; omega
    · obtain rfl : k = j := by omega
      have hN2 := HN.out
      have hcv := conv_fill (P := Try.prog) wr 41 9 5 Try.underlying41 Try.underlying5 Try.underlying9 (c := d) HO.out (fun i hi => by unfold zf; omega)
      have hstr : (⟨(strOf d (zf N k)).toArray⟩ : ByteArray) = strN N d := by
        unfold strOf strN zf
        rw [Nat.mod_eq_of_lt hN2]
        simp only [Int.toNat_natCast]
      rw [hstr] at hcv
      clear hN2 hstr
      go_wp2
      go_returns
      exact ⟨rfl, HBE.out⟩
end Go.Proofs.Ytfmilakgpocnnaa

/- What Align and Add of the document's writer leave (contracts of the functions). -/
import Derived.Test.YtfmilakgpocnnaaBitZ
namespace Go.Proofs.Ytfmilakgpocnnaa
open Go.RowKit
set_option linter.unusedVariables false

theorem bitCells_zero {N k j : Nat} (h : N < 2 ^ k) (hj : k ≤ j) : bitCells N (j + 1) = bitCells N j ++ [Value.int .u8 0] := by
  rw [bitCells_succ, Nat.div_eq_of_lt (Nat.lt_of_lt_of_le h (Nat.pow_le_pow_right (by decide) hj))]
  rfl
/-- How many elements a slice in a cell has. -/
def lenAt (w : World) (g : Nat) : Nat := match w.cell? ⟨g, 0, none⟩ with | some (.slice _ m _) => m | _ => 0
theorem lenAt_of {w : World} {g k : Nat} {ao : Option Addr} {cap : Nat} {xs : List Value} (h : ZrB w g (.slice ao k cap) k xs) : lenAt w g = k := by
  have := h.blk.cell 0
  simp at this
  simp [lenAt, this]
set_option maxRecDepth 100000 in
set_option maxHeartbeats 2000000 in
theorem zalign_any (F : Nat → Prop) (g k N : Nat) (hk : k ≤ 1000000000) (w : World) (h : ZrF F w g k N) :
    Calls Try.prog 24 #[.pointer (some ⟨g, 0, none⟩)] w fun e w' => e = .returned (.tuple #[]) ∧ ZPost F g (upK k) N w w' := by
  obtain ⟨i0, hi, hz0, hz1, hz2⟩ := info_parts byteInfo
  obtain ⟨dv, hFg, hFd, hB, hN, hlt⟩ := h
  have hu2 : k ≤ upK k := by unfold upK; omega
  have hu3 : upK k ≤ 1000000007 := by unfold upK; omega
  have HU : Hid (upK k = (k + 7) / 8 * 8) := hid rfl
  have HB := hid hB
  have HN := hid hN
  have HFd := hid hFd
  have Hlt := hid hlt
  clear hB hN hFd hlt
  generalize upK k = u at *
  go_enter Try.func24, Try.ntmps24
  go_wp2
  go_loopw [] (fun wr => ∃ j : Nat, ∃ dv' : Value, ∃ F' : Nat → Prop, k ≤ j ∧ j ≤ u ∧ ZrB wr g dv' j (bitCells N j) ∧ F' g ∧ (∀ b, dv'.ownBlock = some b → F' b) ∧ Keeps F w wr ∧ (∀ i, F' i → F i ∨ w.heap.size ≤ i) ∧ ∀ i, F' i → i < wr.heap.size) (fun wr => u - lenAt wr g)
  case atStart => exact ⟨k, dv, F, Nat.le_refl _, hu2, HB.out, hFg, HFd.out, Keeps.refl _ _, fun i h => .inl h, Hlt.out⟩
  case round =>
    rename_i wr
    obtain ⟨j, dv', F', hj1, hj2, hB', hF'g, hF'd, hK', hF'F, hF'l⟩ := hrel
    obtain ⟨ao, cap, rfl⟩ := own_slice hB'.row
    have HB' := hid hB'
    have HFd' := hid hF'd
    have HFF' := hid hF'F
    have HFl' := hid hF'l
    have HK' := hid hK'
    have e0 : wr.cell? ⟨g, 0, none⟩ = some (.slice ao j cap) := HB'.out.blk.cell 0
    clear hB' hF'd hF'F hF'l hK'
    by_cases hj : j % 8 = 0
    · have HJ : u = j := by have := HU.out; omega
      have e1 : ((j : Int) % 8 != 0) = false := by simp; omega
      have e2 : ((j : Int) % 8 == 0) = true := by simp; omega
      have HJ := hid HJ
      have hN2 : N < 2 ^ u := Nat.lt_of_lt_of_le HN.out (Nat.pow_le_pow_right (by decide) hu2)
      have HN2 := hid hN2
      clear hj hN2
      go_wp2
      go_returns
      refine ⟨rfl, F', ⟨.slice ao j cap, hF'g, HFd'.out, ?_, HN2.out, HFl'.out⟩, HK'.out, HFF'.out⟩
      rw [HJ.out]
      exact HB'.out
    · have HJ : j < u := by have := HU.out; omega
      have e1 : ((j : Int) % 8 != 0) = true := by simp; omega
      have e2 : ((j : Int) % 8 == 0) = false := by simp; omega
      have HZ := hid (bitCells_zero HN.out hj1)
      clear hj
      go_wp2_with (at_builtin; refine wpList_append_own_at _ rfl (.tmp 13) (.tmp 14) 41 rfl 0 5 i0 (.int .u8 0) 1 1 Try.underlying41 hi hz0 hz1 hz2 rfl (by decide) (.slice ao j cap) j (bitCells N j) rfl (own_keep HB'.out.row (fun b hb => Below.heap_alloc _ _ _ (own_lt HB'.out.row hb))) ⟨wr.heap.size, 0, none⟩ 1 1 [.int .u8 0] rfl rfl (cell_one_new _ _ _) (by intro u hu; simp at hu; rw [hu]; rfl) (by unfold maxLen; omega) (by omega) (Nat.zero_le _) ?_; intro rd' w5 hown5 hgrow5 _ hblk5; obtain ⟨ao2, cap2, rfl⟩ := own_slice hown5; have hrow5 : w5.ownsRow 0 5 1 (.slice ao2 (j + 1) cap2) (j + 1) (bitCells N (j + 1)) := (by rw [HZ.out]; exact hown5); have hH5 : Has w5 g 46 #[.slice ao j cap] := (hgrow5.block g (by have := HB'.out.blk.lt; simp; omega) (fun e => HB'.out.ne e.symm)).trans (HB'.out.blk.alloc _); have y5 : w5.cell? ⟨g, 0, none⟩ = some (.slice ao j cap) := hH5.cell 0; have z5 := hH5.frozen 0; have HP := hid (z_push HB'.out hF'g HFd'.out HK'.out HFF'.out HFl'.out hgrow5 hrow5 hblk5); clear hown5 hgrow5 hblk5 hrow5 hH5 e0)
      go_roundw
      case rel =>
        obtain ⟨F2, p1, p2, p3, p4, p5, p6⟩ := HP.out
        exact ⟨j + 1, .slice ao2 (j + 1) cap2, F2, by omega, by omega, p1, p2, p3, p4, p5, p6⟩
      case measure =>
        obtain ⟨F2, p1, _⟩ := HP.out
        rw [lenAt_of p1, lenAt_of HB'.out]
        omega
theorem leN_take (s : ByteArray) (i : Nat) (h : i < s.size) : leN (s.data.toList.take (i + 1)) = leN (s.data.toList.take i) + 2 ^ (8 * i) * s[i].toNat := by
  have e : s.data.toList.take (i + 1) = s.data.toList.take i ++ [s[i]] := by
    rw [List.take_succ_eq_append_getElem (by simpa using h)]; rfl
  rw [e, leN_append]
  simp only [List.length_take, leN, Nat.mul_zero, Nat.add_zero]
  rw [Nat.min_eq_left (by simp; omega)]
set_option maxRecDepth 100000 in
set_option maxHeartbeats 2000000 in
theorem zadd_any (F : Nat → Prop) (g k N : Nat) (s : ByteArray) (hk : k + 8 * s.size ≤ 900000000) (w : World) (h : ZrF F w g k N) :
    Calls Try.prog 26 #[.pointer (some ⟨g, 0, none⟩), .string s] w fun e w' => e = .returned (.tuple #[]) ∧ ZPost F g (upK k + 8 * s.size) (N + leN s.data.toList * 2 ^ upK k) w w' := by
  have hal := zalign_any F g k N (by omega) w h
  have hu3 : upK k ≤ k + 7 := by unfold upK; omega
  have HAL := hid hal
  clear hal h
  generalize upK k = u at *
  go_enter Try.func26, Try.ntmps26
  go_wp2_with fail
  refine HAL.out.mono ?_
  rintro e w1 ⟨rfl, F1, h1, hk1, hf1⟩
  have H1 := hid h1
  have HK1 := hid hk1
  have HF1 := hid hf1
  clear h1 hk1 hf1
  go_wp2
  go_loopw [4] (fun i wr => ∃ j : Nat, ∃ F' : Nat → Prop, j ≤ s.size ∧ i = .int .i64 j ∧ ZrF F' wr g (u + 8 * j) (N + leN (s.data.toList.take j) * 2 ^ u) ∧ Keeps F w wr ∧ ∀ i, F' i → F i ∨ w.heap.size ≤ i) (fun i _ => s.size - (intOf i).toNat)
  case atStart => exact ⟨0, F1, Nat.zero_le _, rfl, by simpa [leN] using H1.out, HK1.out, HF1.out⟩
  case round =>
    obtain ⟨j, F', hj, rfl, hZ, hK, hFF⟩ := hrel
    have HZ := hid hZ
    have HK := hid hK
    have HFF := hid hFF
    clear hZ hK hFF
    by_cases hlt : j < s.size
    · have hx : s[j].toNat < 256 := s[j].toNat_lt
      have hp := zput_ok F' g _ _ (by omega) s[j].toNat (by omega) 8 (by omega) (by omega) _ HZ.out
      have e1 : N + leN (s.data.toList.take j) * 2 ^ u + s[j].toNat * 2 ^ (u + 8 * j) = N + leN (s.data.toList.take (j + 1)) * 2 ^ u := by
        rw [leN_take s j hlt, Nat.add_mul, Nat.add_assoc, Nat.pow_add]
        congr 2
        rw [Nat.mul_comm (2 ^ (8 * j)), Nat.mul_assoc, Nat.mul_comm (2 ^ (8 * j))]
      rw [e1, show u + 8 * j + 8 = u + 8 * (j + 1) by omega] at hp
      have HP := hid hp
      clear hp e1
      go_wp2_with fail
      refine HP.out.mono ?_
      rintro e w2 ⟨rfl, F2, h2, hk2, hf2⟩
      have H2 := hid h2
      have HK2 := hid hk2
      have HF2 := hid hf2
      clear h2 hk2 hf2
      go_wp2
      go_roundw
      case rel =>
        refine ⟨j + 1, F2, by omega, by go_num, H2.out, ⟨HK2.out.os.trans HK.out.os, HK2.out.tape.trans HK.out.tape, HK2.out.output.trans HK.out.output, Nat.le_trans HK.out.size HK2.out.size, fun i hi hn => ?_⟩, fun i h => ?_⟩
        · refine (HK2.out.block i (Nat.lt_of_lt_of_le hi HK.out.size) (fun h => ?_)).trans (HK.out.block i hi hn)
          rcases HFF.out i h with h | h
          · exact hn h
          · omega
        · rcases HF2.out i h with h | h
          · exact HFF.out i h
          · have := HK.out.size; omega
      case measure => simp [intOf]; omega
    · obtain rfl : s.size = j := by omega
      have hZ2 := HZ.out
      rw [List.take_of_length_le (by simp)] at hZ2
      have HZ2 := hid hZ2
      clear hZ2
      go_wp2
      go_returns
      exact ⟨rfl, F', HZ2.out, HK.out, HFF.out⟩
end Go.Proofs.Ytfmilakgpocnnaa

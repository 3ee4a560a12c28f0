/- What sums's and the document's CRC return, for every text and every uint32 (contracts of the functions; the table holds what the program's text lays). -/
import Derived.Test.YtkdnlnnmeeeolaaDoorRows
import Derived.Test.YtkdnlnnmeeeolaaDoorSumM
import Derived.Laws.BitsAllLaws
namespace Go.Proofs.YtkdnlnnmeeeolaaDoor
open Go.RowKit

def lim : Nat := 281474976710656
def Halves (w : World) : Prop := ∀ k, k < 16 → w.cell? ⟨0, k, none⟩ = some (.int .u32 (crcT.getD k 0 : Nat))
theorem Halves.bw {w w' : World} (h : Halves w) (k : Bw w w') (hl : 0 < w.heap.size) : Halves w' := fun i hi => by
  rw [Below.cell k (p := ⟨0, i, none⟩) hl]; exact h i hi
theorem Halves.lt {w : World} (h : Halves w) : 0 < w.heap.size := by
  have h0 := h 0 (by decide)
  rcases Nat.lt_or_ge 0 w.heap.size with hl | hg
  · exact hl
  · simp [World.cell?, Array.getElem?_eq_none hg] at h0
theorem ret_u32 {a b : Int} (h : a = b) : Ending.returned (.int .u32 a) = .returned (.int .u32 b) := by rw [h]
theorem take_snoc (s : ByteArray) (k : Nat) (h : k < s.size) : s.data.toList.take (k + 1) = s.data.toList.take k ++ [s[k]] := by
  rw [List.take_succ_eq_append_getElem (by simpa using h)]; rfl
def crcA (r : Nat) (s : ByteArray) (k : Nat) : Nat := crcR r (s.data.toList.take k)
theorem crcA_lt {r : Nat} (h : r < 4294967296) (s : ByteArray) (k : Nat) : crcA r s k < 4294967296 := crcR_lt h _
theorem crcA_succ (r : Nat) (s : ByteArray) (k : Nat) (h : k < s.size) : crcA r s (k + 1) = crcF8 (crcA r s k ^^^ s[k].toNat) := by
  unfold crcA; rw [take_snoc s k h, crcR_snoc]

theorem not_u32 {c : Nat} (h : c < 4294967296) : bits .xor .u32 IntKind.u32.max (c : Int) = (crcI c : Nat) := by
  have e := u32_xor_nat 4294967295 c (by omega) h
  rw [Nat.xor_comm] at e
  exact e
theorem xor_max {c : Nat} (h : c < 4294967296) : bits .xor .u32 (c : Int) 4294967295 = (crcI c : Nat) := u32_xor_nat c 4294967295 h (by omega)
theorem crcA_0 (r : Nat) (s : ByteArray) : crcA r s 0 = r := by unfold crcA; simp [crcR]
theorem crcA_all (c : Nat) (s : ByteArray) (k : Nat) (hk : k ≤ s.size) (h : ¬ k < s.size) : crcI (crcA (crcI c) s k) = moreN c s.data.toList := by
  unfold crcA moreN; rw [List.take_of_length_le (by simp; omega)]

set_option maxHeartbeats 400000 in
theorem more_any (c : Nat) (hc : c < 4294967296) (s : ByteArray) (hs : s.size ≤ lim) (w : World) (hh : Halves w) :
    Calls Tryd.prog 12 #[.int .u32 c, .string s] w fun e w' => e = .returned (.int .u32 (moreN c s.data.toList)) ∧ w = w' := by
  unfold lim at hs
  have HH := hid hh
  clear hh
  go_enter Tryd.func12, Tryd.ntmps12
  go_wp2
  go_loop [5, 11] (fun r i => ∃ k : Nat, k ≤ s.size ∧ i = .int .i64 k ∧ r = .int .u32 (crcA (crcI c) s k : Nat)) (fun _ i => s.size - (intOf i).toNat)
  case atStart => 
    exact ⟨0, Nat.zero_le _, rfl, by rw [not_u32 hc, crcA_0]⟩
  case round =>
    obtain ⟨k, hk, rfl, rfl⟩ := hrel
    have hr := crcA_lt (crcI_lt hc) s k
    by_cases hlt : k < s.size
    · have hx : s[k].toNat < 256 := byte_lt _
      generalize hg : crcA (crcI c) s k = r at *
      have HG := hid hg; clear hg
      have e1 := u32_xor_nat r s[k].toNat hr (by omega)
      have hxl : r ^^^ s[k].toNat < 4294967296 := xor_lt32 hr (by omega)
      generalize hx1 : r ^^^ s[k].toNat = x at *
      have HX := hid hx1; clear hx1
      have hm : x % 16 < 16 := Nat.mod_lt _ (by decide)
      have c1 := HH.out (x % 16) hm
      have ht := crcT_lt (x % 16) hm
      generalize hc1 : crcT.getD (x % 16) 0 = t at *
      have HT := hid hc1; clear hc1
      have e2 : bits .xor .u32 ((x : Int) / 16) (t : Int) = ((x / 16 ^^^ t : Nat) : Int) := u32_xor_nat (x / 16) t (by omega) ht
      have hyl : x / 16 ^^^ t < 4294967296 := xor_lt32 (by omega) ht
      generalize hy1 : x / 16 ^^^ t = y at *
      have HY := hid hy1; clear hy1
      have hn : y % 16 < 16 := Nat.mod_lt _ (by decide)
      have c2 := HH.out (y % 16) hn
      have hu := crcT_lt (y % 16) hn
      generalize hc2 : crcT.getD (y % 16) 0 = u at *
      have HU := hid hc2; clear hc2
      have e3 : bits .xor .u32 ((y : Int) / 16) (u : Int) = ((y / 16 ^^^ u : Nat) : Int) := u32_xor_nat (y / 16) u (by omega) hu
      have HZ : Hid (crcA (crcI c) s (k + 1) = y / 16 ^^^ u) := hid (by rw [crcA_succ _ _ _ hlt, HG.out, HX.out, crcF8, crcF4_half x, HT.out, HY.out, crcF4_half y, HU.out])
      go_wp2
      go_round
      case rel => exact ⟨k + 1, by omega, by go_num, by rw [HZ.out]⟩
      case measure => simp [intOf]; omega
    · go_wp2
      go_ret
      exact ⟨ret_u32 (by rw [not_u32 hr, crcA_all c s k hk hlt]), rfl⟩

def bitB (b j : Nat) : Nat := b / 2 ^ j
theorem bitB_0 (b : Nat) : bitB b 0 = b := by simp [bitB]
theorem bitB_lt {b : Nat} (j : Nat) (h : b < 4294967296) : bitB b j < 4294967296 := Nat.lt_of_le_of_lt (Nat.div_le_self _ _) h
theorem bitB_succ (b j : Nat) : bitB b (j + 1) = bitB b j / 2 := by unfold bitB; rw [Nat.pow_succ, Nat.div_div_eq_div_mul]
theorem bitR_succ (r b j : Nat) : bitR r b (j + 1) = (bitR r b j / 2) ^^^ (if bitR r b j % 2 ≠ bitB b j % 2 then 3988292384 else 0) := rfl

set_option maxHeartbeats 400000 in
theorem refmore_any (c : Nat) (hc : c < 4294967296) (s : ByteArray) (hs : s.size ≤ lim) (w : World) :
    Calls Tryd.prog 13 #[.int .u32 c, .string s] w fun e w' => e = .returned (.int .u32 (moreN c s.data.toList)) ∧ w = w' := by
  unfold lim at hs
  have e0 := xor_max hc
  have hl0 := crcI_lt hc
  generalize hq : crcI c = q at *
  have HQ := hid hq; clear hq
  go_enter Tryd.func13, Tryd.ntmps13
  go_wp2
  clear e0
  go_loop [5, 6] (fun r i => ∃ k : Nat, k ≤ s.size ∧ i = .int .i64 k ∧ r = .int .u32 (crcA q s k : Nat)) (fun _ i => s.size - (intOf i).toNat)
  case atStart => exact ⟨0, Nat.zero_le _, rfl, by rw [crcA_0]⟩
  case round =>
    obtain ⟨k, hk, rfl, rfl⟩ := hrel
    have hr := crcA_lt hl0 s k
    by_cases hlt : k < s.size
    · have hx : s[k].toNat < 256 := byte_lt _
      generalize hg : crcA q s k = r at *
      have HG := hid hg; clear hg
      go_wp2
      go_loop [5, 7, 8] (fun r' b' j' => ∃ j : Nat, j ≤ 8 ∧ j' = .int .i64 j ∧ r' = .int .u32 (bitR r s[k].toNat j : Nat) ∧ b' = .int .u32 (bitB s[k].toNat j : Nat)) (fun _ _ j => 8 - (intOf j).toNat)
      case atStart => exact ⟨0, by omega, rfl, rfl, by rw [bitB_0]⟩
      case round =>
        obtain ⟨j, hj, rfl, rfl, rfl⟩ := hrel
        by_cases hjl : j < 8
        · have hx1 := bitR_lt (b := s[k].toNat) hr j
          have hy1 : bitB s[k].toNat j < 4294967296 := bitB_lt j (by omega)
          have HRs := hid (bitR_succ r s[k].toNat j)
          have HBs := hid (bitB_succ s[k].toNat j)
          generalize hg1 : bitR r s[k].toNat j = x at *
          have HG1 := hid hg1; clear hg1
          generalize hg2 : bitB s[k].toNat j = y at *
          have HG2 := hid hg2; clear hg2
          by_cases hne : x % 2 = y % 2
          · have ht : ((x : Int) % 2 != (y : Int) % 2) = false := by simp; omega
            have hd : x / 2 < 4294967296 := by omega
            rw [if_neg (by omega), Nat.xor_zero] at HRs
            have HR2 := hid HRs.out
            have HB2 := hid HBs.out
            clear hne HRs HBs
            go_wp2
            go_round
            case rel => exact ⟨j + 1, by omega, by go_num, by rw [HR2.out]; rfl, by rw [HB2.out]; rfl⟩
            case measure => simp [intOf]; omega
          · have ht : ((x : Int) % 2 != (y : Int) % 2) = true := by simp; omega
            have hd : x / 2 < 4294967296 := by omega
            rw [if_pos (by omega)] at HRs
            have HR2 := hid HRs.out
            have HB2 := hid HBs.out
            have e1 : bits .xor .u32 ((x : Int) / 2) 3988292384 = ((x / 2 ^^^ 3988292384 : Nat) : Int) := u32_xor_nat (x / 2) 3988292384 hd (by omega)
            clear hne HRs HBs
            go_wp2
            go_round
            case rel => exact ⟨j + 1, by omega, by go_num, by rw [HR2.out], by rw [HB2.out]; rfl⟩
            case measure => simp [intOf]; omega
        · obtain rfl : 8 = j := by omega
          have H8 := hid (bitR_8 r s[k].toNat hx)
          go_wp2
          go_round
          case rel => exact ⟨k + 1, by omega, by go_num, by rw [H8.out, crcA_succ _ _ _ hlt, HG.out]⟩
          case measure => simp [intOf]; omega
    · have e1 := xor_max hr
      go_wp2
      go_ret
      exact ⟨ret_u32 (by rw [← HQ.out, crcA_all c s k hk hlt]), rfl⟩
end Go.Proofs.YtkdnlnnmeeeolaaDoor

/- SumsEven returns true for every three texts, and changes nothing that was there; no condition but that the listed table holds what the program's text lays. -/
import Derived.Test.YtkdnlnnmeeeolaaDoorSumC
import Derived.Test.YtkdnlnnmeeeolaaDoorSumF
import Derived.Test.YtkdnlnnmeeeolaaDoorWinM
import Derived.Deep.QuietTactic
import Derived.BigQuiet
import Derived.StillTailTactics
namespace Go.Proofs.YtkdnlnnmeeeolaaDoor.sumsEven
open Go.ChangeShapes Go.WideShapes Go.ChangeAt Go.WideMaps Go.WideElems Go.RowKit
open Go.ChangeMaps (open_string shut_string)
set_option linter.unusedVariables false

theorem u8info : (Tryd.prog.info? 5).map (fun i => (i.zero, i.size, i.bytes)) = some (some (.int .u8 0), 1, 1) := by kernel_rfl
theorem quiet_flip {P : Program} {f : FuncId} {args : Array Value} {w : World} {n : Nat} {v : Value} (h : Calls P f args (w.drewN n) fun e w' => e = .returned v ∧ w.drewN n = w') :
    Calls P f args (w.drewN n) fun e w'' => e = .returned v ∧ ∃ m, w'' = w.drewN m := Calls.quiet_of_same (h.mono fun _ _ ⟨x, y⟩ => ⟨x, y.symm⟩)
def evF (a b c : ByteArray) (j : Nat) : Nat := byt a j ^^^ byt b j ^^^ byt c j
def evX (a b c : ByteArray) (n k : Nat) : Array Value := fill n fun j => if j < k then (evF a b c j : Nat) else 0
theorem evF_lt (a b c : ByteArray) (j : Nat) : evF a b c j < 256 := Nat.xor_lt_two_pow (n := 8) (Nat.xor_lt_two_pow (byt_lt a j) (byt_lt b j)) (byt_lt c j)
theorem evX_zero (a b c : ByteArray) (n : Nat) : madeCells #[Value.int .u8 0] n = evX a b c n 0 := by rw [fill_zero]; exact fill_congr fun j _ => by simp
theorem evX_get (a b c : ByteArray) (n k j : Nat) (h : j < n) (hk : k ≤ j) : (evX a b c n k)[j]? = some (.int .u8 0) := by
  rw [evX, fill_get n _ _ h]; simp [show ¬ j < k by omega]
theorem evX_set (a b c : ByteArray) (n k : Nat) : (evX a b c n k).setIfInBounds k (.int .u8 (evF a b c k : Nat)) = evX a b c n (k + 1) := by
  rw [evX, fill_set]
  refine fill_congr fun j hj => ?_
  by_cases e : j = k
  · subst e; simp
  · by_cases l : j < k
    · simp [e, l, Nat.lt_succ_of_lt l]
    · simp [e, l, show ¬ j < k + 1 by omega]
def evS (a b c : ByteArray) (n : Nat) : ByteArray := ⟨(strOf n fun j => (evF a b c j : Nat)).toArray⟩
theorem evX_full (a b c : ByteArray) (n : Nat) : evX a b c n n = fill n fun j => (evF a b c j : Nat) := fill_congr fun j hj => by simp [hj]
theorem evS_size (a b c : ByteArray) (n : Nat) : (evS a b c n).size = n := by
  show (strOf n _).toArray.size = n
  simp [strOf_len]
theorem evS_byt (a b c : ByteArray) (n j : Nat) (hj : j < n) : byt (evS a b c n) j = evF a b c j := by
  have := evF_lt a b c j
  unfold byt evS strOf
  rw [List.getD_eq_getElem?_getD, List.getElem?_eq_getElem (by simpa using hj)]
  simp
  omega
def crcS (s : ByteArray) : Nat := moreN 0 s.data.toList
def cutS (s : ByteArray) (n : Nat) : ByteArray := s.extract 0 n
theorem crc_anyS (s : ByteArray) (hs : s.size ≤ lim) (w : World) (hh : Halves w) : Calls Tryd.prog 10 #[.string s] w fun e w' => e = .returned (.int .u32 (crcS s : Nat)) ∧ w = w' := crc_any s hs w hh
theorem crcS_lt (s : ByteArray) : crcS s < 4294967296 := moreN_lt (by decide) _
theorem extract_all (s : ByteArray) : s.extract 0 s.size = s := ByteArray.extract_zero_size
theorem cut_byt (s : ByteArray) (n j : Nat) (hj : j < n) (hn : n ≤ s.size) : byt (s.extract 0 n) j = byt s j := by
  rw [byt_at s j (by omega), byt_at _ j (by simp; omega)]
  rw [ByteArray.getElem_extract]
  simp
theorem crc_even (a b c : ByteArray) (n : Nat) (ha : n ≤ a.size) (hb : n ≤ b.size) (hc : n ≤ c.size) : crcS (evS a b c n) = crcS (a.extract 0 n) ^^^ crcS (b.extract 0 n) ^^^ crcS (c.extract 0 n) := by
  have hz : ∀ s : ByteArray, n ≤ s.size → (s.extract 0 n).size = n := fun s h => by simp; omega
  unfold crcS
  rw [moreN_byt, moreN_byt, moreN_byt, moreN_byt, evS_size, hz a ha, hz b hb, hz c hc]
  have e : crcB (crcI 0) (byt (evS a b c n)) n = crcB (crcI 0 ^^^ crcI 0 ^^^ crcI 0) (fun i => byt (a.extract 0 n) i ^^^ byt (b.extract 0 n) i ^^^ byt (c.extract 0 n) i) n := by
    rw [Nat.xor_self, Nat.zero_xor]
    refine crcB_congr fun i hi => ?_
    rw [evS_byt a b c n i hi, cut_byt a n i hi ha, cut_byt b n i hi hb, cut_byt c n i hi hc]; rfl
  rw [e, crcB_xor3]
  exact xor_i3 _ _ _ _

set_option maxRecDepth 100000 in
set_option maxHeartbeats 2000000 in
theorem walkA (a : ByteArray) (ha : a.size ≤ 140737488351232) (b : ByteArray) (hb : b.size ≤ 140737488351232) (c : ByteArray) (hc : c.size ≤ 140737488351232) (h1 : ¬ b.size < a.size) (h2 : ¬ c.size < a.size) (w : World) (hh : Halves w) :
    Calls Tryd.prog 9 #[.string a, .string b, .string c] w fun e w' => e = .returned (.bool true) ∧ Bw w w' := by
  have HH := hid hh
  clear hh
  have ha2 : a.size ≤ 281474976710656 := by omega
  have hb2 : b.size ≤ 281474976710656 := by omega
  have hc2 : c.size ≤ 281474976710656 := by omega
  obtain ⟨i0, hi, hz0, hz1, hz2⟩ := info_parts u8info
  have hmk := fun (w : World) => run_make (P := Tryd.prog) w 32 5 i0 (.int .u8 0) Tryd.underlying32 hi hz0 .i64 .i64 (a.size : Int) (a.size : Int) (by omega) (by omega) (by rw [hz2]; omega) (by omega)
  have HG := hid (HH.out.lt)
  have Hna := hid (show a.size ≤ a.size by omega)
  have Hnb := hid (show a.size ≤ b.size by omega)
  have Hnc := hid (show a.size ≤ c.size by omega)
  have HMK := hid (fun (w : World) => (hmk w).trans (by rw [hz1, Nat.mul_one, Int.toNat_natCast]))
  clear hmk
  have hmk := HMK.out
  clear hi hz0 hz1 hz2
  go_enter Tryd.func9, Tryd.ntmps9
  go_wp2
  clear hmk
  go_loopw [9] (fun i wr => ∃ k : Nat, k ≤ a.size ∧ i = .int .i64 k ∧ Has wr w.heap.size 5 (evX a b c a.size k) ∧ Below w.heap.size w wr)
    (fun i _ => a.size - (intOf i).toNat)
  case atStart =>
    refine ⟨0, Nat.zero_le _, rfl, ?_, (Below.refl _ _).alloc (Nat.le_refl _) _⟩
    rw [← evX_zero]
    exact Has.new w _ _
  case round =>
    obtain ⟨k, hk, rfl, hB, hbel⟩ := hrel
    by_cases hlt : k < a.size
    · have hcB := hB.cell k
      rw [evX_get a b c a.size k k hlt (Nat.le_refl k)] at hcB
      have hfB := hB.frozen k
      have hka : k < a.size := by have := Hna.out; omega
      have hkb : k < b.size := by have := Hnb.out; omega
      have hkc : k < c.size := by have := Hnc.out; omega
      have x1 := u8_xor_nat a[k].toNat b[k].toNat (byte_lt _) (byte_lt _)
      have x2 := u8_xor_nat (a[k].toNat ^^^ b[k].toNat) c[k].toNat (Nat.xor_lt_two_pow (n := 8) (byte_lt _) (byte_lt _)) (byte_lt _)
      have HE := hid (show a[k].toNat ^^^ b[k].toNat ^^^ c[k].toNat = evF a b c k by unfold evF; rw [byt_at a k hka, byt_at b k hkb, byt_at c k hkc])
      go_wp2
      go_region
      all_goals go_wp2
      all_goals go_roundw
      case rel =>
        refine ⟨k + 1, by omega, by go_num, ?_, below_drewN (hbel.setCell (by simp) _) 1⟩
        have h1 := hB.put k (.int .u8 (evF a b c k : Nat))
        rw [evX_set, ← HE.out] at h1
        exact h1
      case measure => simp [intOf]; omega
    · obtain rfl : k = a.size := by omega
      have hW := hid (HH.out.bw hbel HG.out)
      rw [evX_full a b c a.size] at hB
      have hcv := fun n => conv_fill (P := Tryd.prog) (wr.drewN n) 32 9 5 Tryd.underlying32 Tryd.underlying5 Tryd.underlying9 (c := a.size) (hB.drewN n) (fun j _ => ⟨by omega, by have := evF_lt a b c j; omega⟩)
      go_wp2
      have S0 := hid (show (evS a b c a.size).size ≤ lim by rw [evS_size]; unfold lim; omega)
      have Sa := hid (show (a).size ≤ lim by unfold lim; omega)
      have Sb := hid (show (b.extract 0 a.size).size ≤ lim by unfold lim; simp; omega)
      have Sc := hid (show (c.extract 0 a.size).size ≤ lim by unfold lim; simp; omega)
      have hE : crcS (evS a b c a.size) = crcS (a) ^^^ crcS (b.extract 0 a.size) ^^^ crcS (c.extract 0 a.size) := by
        have h := crc_even a b c a.size Hna.out Hnb.out Hnc.out
        rw [extract_all] at h
        exact h
      have y1 := u32_xor_nat (crcS (a)) (crcS (b.extract 0 a.size)) (crcS_lt _) (crcS_lt _)
      have y2 := u32_xor_nat (crcS (a) ^^^ crcS (b.extract 0 a.size)) (crcS (c.extract 0 a.size)) (xor_lt32 (crcS_lt _) (crcS_lt _)) (crcS_lt _)
      have y3 : ((crcS (evS a b c a.size) : Int) == ((crcS (a) ^^^ crcS (b.extract 0 a.size) ^^^ crcS (c.extract 0 a.size) : Nat) : Int)) = true := by rw [hE]; simp
      clear hE
      go_quiet ((first | (go_at_call 10; exact quiet_flip (crc_anyS (evS a b c a.size) S0.out _ hW.out)) | (go_at_call 10; exact quiet_flip (crc_anyS (a) Sa.out _ hW.out)) | (go_at_call 10; exact quiet_flip (crc_anyS (b.extract 0 a.size) Sb.out _ hW.out)) | (go_at_call 10; exact quiet_flip (crc_anyS (c.extract 0 a.size) Sc.out _ hW.out)) | (go_at_call 14; exact quiet_flip (live_any _ hW.out))))
      go_wp2
      go_returns
      exact ⟨rfl, Bw.at_end (below_drewN hbel _)⟩

set_option maxRecDepth 100000 in
set_option maxHeartbeats 2000000 in
theorem walkB (a : ByteArray) (ha : a.size ≤ 140737488351232) (b : ByteArray) (hb : b.size ≤ 140737488351232) (c : ByteArray) (hc : c.size ≤ 140737488351232) (h1 : b.size < a.size) (h2 : ¬ c.size < b.size) (w : World) (hh : Halves w) :
    Calls Tryd.prog 9 #[.string a, .string b, .string c] w fun e w' => e = .returned (.bool true) ∧ Bw w w' := by
  have HH := hid hh
  clear hh
  have ha2 : a.size ≤ 281474976710656 := by omega
  have hb2 : b.size ≤ 281474976710656 := by omega
  have hc2 : c.size ≤ 281474976710656 := by omega
  obtain ⟨i0, hi, hz0, hz1, hz2⟩ := info_parts u8info
  have hmk := fun (w : World) => run_make (P := Tryd.prog) w 32 5 i0 (.int .u8 0) Tryd.underlying32 hi hz0 .i64 .i64 (b.size : Int) (b.size : Int) (by omega) (by omega) (by rw [hz2]; omega) (by omega)
  have HG := hid (HH.out.lt)
  have Hna := hid (show b.size ≤ a.size by omega)
  have Hnb := hid (show b.size ≤ b.size by omega)
  have Hnc := hid (show b.size ≤ c.size by omega)
  have HMK := hid (fun (w : World) => (hmk w).trans (by rw [hz1, Nat.mul_one, Int.toNat_natCast]))
  clear hmk
  have hmk := HMK.out
  clear hi hz0 hz1 hz2
  go_enter Tryd.func9, Tryd.ntmps9
  go_wp2
  clear hmk
  go_loopw [9] (fun i wr => ∃ k : Nat, k ≤ b.size ∧ i = .int .i64 k ∧ Has wr w.heap.size 5 (evX a b c b.size k) ∧ Below w.heap.size w wr)
    (fun i _ => b.size - (intOf i).toNat)
  case atStart =>
    refine ⟨0, Nat.zero_le _, rfl, ?_, (Below.refl _ _).alloc (Nat.le_refl _) _⟩
    rw [← evX_zero]
    exact Has.new w _ _
  case round =>
    obtain ⟨k, hk, rfl, hB, hbel⟩ := hrel
    by_cases hlt : k < b.size
    · have hcB := hB.cell k
      rw [evX_get a b c b.size k k hlt (Nat.le_refl k)] at hcB
      have hfB := hB.frozen k
      have hka : k < a.size := by have := Hna.out; omega
      have hkb : k < b.size := by have := Hnb.out; omega
      have hkc : k < c.size := by have := Hnc.out; omega
      have x1 := u8_xor_nat a[k].toNat b[k].toNat (byte_lt _) (byte_lt _)
      have x2 := u8_xor_nat (a[k].toNat ^^^ b[k].toNat) c[k].toNat (Nat.xor_lt_two_pow (n := 8) (byte_lt _) (byte_lt _)) (byte_lt _)
      have HE := hid (show a[k].toNat ^^^ b[k].toNat ^^^ c[k].toNat = evF a b c k by unfold evF; rw [byt_at a k hka, byt_at b k hkb, byt_at c k hkc])
      go_wp2
      go_region
      all_goals go_wp2
      all_goals go_roundw
      case rel =>
        refine ⟨k + 1, by omega, by go_num, ?_, below_drewN (hbel.setCell (by simp) _) 1⟩
        have h1 := hB.put k (.int .u8 (evF a b c k : Nat))
        rw [evX_set, ← HE.out] at h1
        exact h1
      case measure => simp [intOf]; omega
    · obtain rfl : k = b.size := by omega
      have hW := hid (HH.out.bw hbel HG.out)
      rw [evX_full a b c b.size] at hB
      have hcv := fun n => conv_fill (P := Tryd.prog) (wr.drewN n) 32 9 5 Tryd.underlying32 Tryd.underlying5 Tryd.underlying9 (c := b.size) (hB.drewN n) (fun j _ => ⟨by omega, by have := evF_lt a b c j; omega⟩)
      go_wp2
      have S0 := hid (show (evS a b c b.size).size ≤ lim by rw [evS_size]; unfold lim; omega)
      have Sa := hid (show (a.extract 0 b.size).size ≤ lim by unfold lim; simp; omega)
      have Sb := hid (show (b).size ≤ lim by unfold lim; omega)
      have Sc := hid (show (c.extract 0 b.size).size ≤ lim by unfold lim; simp; omega)
      have hE : crcS (evS a b c b.size) = crcS (a.extract 0 b.size) ^^^ crcS (b) ^^^ crcS (c.extract 0 b.size) := by
        have h := crc_even a b c b.size Hna.out Hnb.out Hnc.out
        rw [extract_all] at h
        exact h
      have y1 := u32_xor_nat (crcS (a.extract 0 b.size)) (crcS (b)) (crcS_lt _) (crcS_lt _)
      have y2 := u32_xor_nat (crcS (a.extract 0 b.size) ^^^ crcS (b)) (crcS (c.extract 0 b.size)) (xor_lt32 (crcS_lt _) (crcS_lt _)) (crcS_lt _)
      have y3 : ((crcS (evS a b c b.size) : Int) == ((crcS (a.extract 0 b.size) ^^^ crcS (b) ^^^ crcS (c.extract 0 b.size) : Nat) : Int)) = true := by rw [hE]; simp
      clear hE
      go_quiet ((first | (go_at_call 10; exact quiet_flip (crc_anyS (evS a b c b.size) S0.out _ hW.out)) | (go_at_call 10; exact quiet_flip (crc_anyS (a.extract 0 b.size) Sa.out _ hW.out)) | (go_at_call 10; exact quiet_flip (crc_anyS (b) Sb.out _ hW.out)) | (go_at_call 10; exact quiet_flip (crc_anyS (c.extract 0 b.size) Sc.out _ hW.out)) | (go_at_call 14; exact quiet_flip (live_any _ hW.out))))
      go_wp2
      go_returns
      exact ⟨rfl, Bw.at_end (below_drewN hbel _)⟩

set_option maxRecDepth 100000 in
set_option maxHeartbeats 2000000 in
theorem walkC (a : ByteArray) (ha : a.size ≤ 140737488351232) (b : ByteArray) (hb : b.size ≤ 140737488351232) (c : ByteArray) (hc : c.size ≤ 140737488351232) (h1 : b.size < a.size) (h2 : c.size < b.size) (w : World) (hh : Halves w) :
    Calls Tryd.prog 9 #[.string a, .string b, .string c] w fun e w' => e = .returned (.bool true) ∧ Bw w w' := by
  have HH := hid hh
  clear hh
  have ha2 : a.size ≤ 281474976710656 := by omega
  have hb2 : b.size ≤ 281474976710656 := by omega
  have hc2 : c.size ≤ 281474976710656 := by omega
  obtain ⟨i0, hi, hz0, hz1, hz2⟩ := info_parts u8info
  have hmk := fun (w : World) => run_make (P := Tryd.prog) w 32 5 i0 (.int .u8 0) Tryd.underlying32 hi hz0 .i64 .i64 (c.size : Int) (c.size : Int) (by omega) (by omega) (by rw [hz2]; omega) (by omega)
  have HG := hid (HH.out.lt)
  have Hna := hid (show c.size ≤ a.size by omega)
  have Hnb := hid (show c.size ≤ b.size by omega)
  have Hnc := hid (show c.size ≤ c.size by omega)
  have HMK := hid (fun (w : World) => (hmk w).trans (by rw [hz1, Nat.mul_one, Int.toNat_natCast]))
  clear hmk
  have hmk := HMK.out
  clear hi hz0 hz1 hz2
  go_enter Tryd.func9, Tryd.ntmps9
  go_wp2
  clear hmk
  go_loopw [9] (fun i wr => ∃ k : Nat, k ≤ c.size ∧ i = .int .i64 k ∧ Has wr w.heap.size 5 (evX a b c c.size k) ∧ Below w.heap.size w wr)
    (fun i _ => c.size - (intOf i).toNat)
  case atStart =>
    refine ⟨0, Nat.zero_le _, rfl, ?_, (Below.refl _ _).alloc (Nat.le_refl _) _⟩
    rw [← evX_zero]
    exact Has.new w _ _
  case round =>
    obtain ⟨k, hk, rfl, hB, hbel⟩ := hrel
    by_cases hlt : k < c.size
    · have hcB := hB.cell k
      rw [evX_get a b c c.size k k hlt (Nat.le_refl k)] at hcB
      have hfB := hB.frozen k
      have hka : k < a.size := by have := Hna.out; omega
      have hkb : k < b.size := by have := Hnb.out; omega
      have hkc : k < c.size := by have := Hnc.out; omega
      have x1 := u8_xor_nat a[k].toNat b[k].toNat (byte_lt _) (byte_lt _)
      have x2 := u8_xor_nat (a[k].toNat ^^^ b[k].toNat) c[k].toNat (Nat.xor_lt_two_pow (n := 8) (byte_lt _) (byte_lt _)) (byte_lt _)
      have HE := hid (show a[k].toNat ^^^ b[k].toNat ^^^ c[k].toNat = evF a b c k by unfold evF; rw [byt_at a k hka, byt_at b k hkb, byt_at c k hkc])
      go_wp2
      go_region
      all_goals go_wp2
      all_goals go_roundw
      case rel =>
        refine ⟨k + 1, by omega, by go_num, ?_, below_drewN (hbel.setCell (by simp) _) 1⟩
        have h1 := hB.put k (.int .u8 (evF a b c k : Nat))
        rw [evX_set, ← HE.out] at h1
        exact h1
      case measure => simp [intOf]; omega
    · obtain rfl : k = c.size := by omega
      have hW := hid (HH.out.bw hbel HG.out)
      rw [evX_full a b c c.size] at hB
      have hcv := fun n => conv_fill (P := Tryd.prog) (wr.drewN n) 32 9 5 Tryd.underlying32 Tryd.underlying5 Tryd.underlying9 (c := c.size) (hB.drewN n) (fun j _ => ⟨by omega, by have := evF_lt a b c j; omega⟩)
      go_wp2
      have S0 := hid (show (evS a b c c.size).size ≤ lim by rw [evS_size]; unfold lim; omega)
      have Sa := hid (show (a.extract 0 c.size).size ≤ lim by unfold lim; simp; omega)
      have Sb := hid (show (b.extract 0 c.size).size ≤ lim by unfold lim; simp; omega)
      have Sc := hid (show (c).size ≤ lim by unfold lim; omega)
      have hE : crcS (evS a b c c.size) = crcS (a.extract 0 c.size) ^^^ crcS (b.extract 0 c.size) ^^^ crcS (c) := by
        have h := crc_even a b c c.size Hna.out Hnb.out Hnc.out
        rw [extract_all] at h
        exact h
      have y1 := u32_xor_nat (crcS (a.extract 0 c.size)) (crcS (b.extract 0 c.size)) (crcS_lt _) (crcS_lt _)
      have y2 := u32_xor_nat (crcS (a.extract 0 c.size) ^^^ crcS (b.extract 0 c.size)) (crcS (c)) (xor_lt32 (crcS_lt _) (crcS_lt _)) (crcS_lt _)
      have y3 : ((crcS (evS a b c c.size) : Int) == ((crcS (a.extract 0 c.size) ^^^ crcS (b.extract 0 c.size) ^^^ crcS (c) : Nat) : Int)) = true := by rw [hE]; simp
      clear hE
      go_quiet ((first | (go_at_call 10; exact quiet_flip (crc_anyS (evS a b c c.size) S0.out _ hW.out)) | (go_at_call 10; exact quiet_flip (crc_anyS (a.extract 0 c.size) Sa.out _ hW.out)) | (go_at_call 10; exact quiet_flip (crc_anyS (b.extract 0 c.size) Sb.out _ hW.out)) | (go_at_call 10; exact quiet_flip (crc_anyS (c) Sc.out _ hW.out)) | (go_at_call 14; exact quiet_flip (live_any _ hW.out))))
      go_wp2
      go_returns
      exact ⟨rfl, Bw.at_end (below_drewN hbel _)⟩

set_option maxRecDepth 100000 in
set_option maxHeartbeats 2000000 in
theorem walkD (a : ByteArray) (ha : a.size ≤ 140737488351232) (b : ByteArray) (hb : b.size ≤ 140737488351232) (c : ByteArray) (hc : c.size ≤ 140737488351232) (h1 : ¬ b.size < a.size) (h2 : c.size < a.size) (w : World) (hh : Halves w) :
    Calls Tryd.prog 9 #[.string a, .string b, .string c] w fun e w' => e = .returned (.bool true) ∧ Bw w w' := by
  have HH := hid hh
  clear hh
  have ha2 : a.size ≤ 281474976710656 := by omega
  have hb2 : b.size ≤ 281474976710656 := by omega
  have hc2 : c.size ≤ 281474976710656 := by omega
  obtain ⟨i0, hi, hz0, hz1, hz2⟩ := info_parts u8info
  have hmk := fun (w : World) => run_make (P := Tryd.prog) w 32 5 i0 (.int .u8 0) Tryd.underlying32 hi hz0 .i64 .i64 (c.size : Int) (c.size : Int) (by omega) (by omega) (by rw [hz2]; omega) (by omega)
  have HG := hid (HH.out.lt)
  have Hna := hid (show c.size ≤ a.size by omega)
  have Hnb := hid (show c.size ≤ b.size by omega)
  have Hnc := hid (show c.size ≤ c.size by omega)
  have HMK := hid (fun (w : World) => (hmk w).trans (by rw [hz1, Nat.mul_one, Int.toNat_natCast]))
  clear hmk
  have hmk := HMK.out
  clear hi hz0 hz1 hz2
  go_enter Tryd.func9, Tryd.ntmps9
  go_wp2
  clear hmk
  go_loopw [9] (fun i wr => ∃ k : Nat, k ≤ c.size ∧ i = .int .i64 k ∧ Has wr w.heap.size 5 (evX a b c c.size k) ∧ Below w.heap.size w wr)
    (fun i _ => c.size - (intOf i).toNat)
  case atStart =>
    refine ⟨0, Nat.zero_le _, rfl, ?_, (Below.refl _ _).alloc (Nat.le_refl _) _⟩
    rw [← evX_zero]
    exact Has.new w _ _
  case round =>
    obtain ⟨k, hk, rfl, hB, hbel⟩ := hrel
    by_cases hlt : k < c.size
    · have hcB := hB.cell k
      rw [evX_get a b c c.size k k hlt (Nat.le_refl k)] at hcB
      have hfB := hB.frozen k
      have hka : k < a.size := by have := Hna.out; omega
      have hkb : k < b.size := by have := Hnb.out; omega
      have hkc : k < c.size := by have := Hnc.out; omega
      have x1 := u8_xor_nat a[k].toNat b[k].toNat (byte_lt _) (byte_lt _)
      have x2 := u8_xor_nat (a[k].toNat ^^^ b[k].toNat) c[k].toNat (Nat.xor_lt_two_pow (n := 8) (byte_lt _) (byte_lt _)) (byte_lt _)
      have HE := hid (show a[k].toNat ^^^ b[k].toNat ^^^ c[k].toNat = evF a b c k by unfold evF; rw [byt_at a k hka, byt_at b k hkb, byt_at c k hkc])
      go_wp2
      go_region
      all_goals go_wp2
      all_goals go_roundw
      case rel =>
        refine ⟨k + 1, by omega, by go_num, ?_, below_drewN (hbel.setCell (by simp) _) 1⟩
        have h1 := hB.put k (.int .u8 (evF a b c k : Nat))
        rw [evX_set, ← HE.out] at h1
        exact h1
      case measure => simp [intOf]; omega
    · obtain rfl : k = c.size := by omega
      have hW := hid (HH.out.bw hbel HG.out)
      rw [evX_full a b c c.size] at hB
      have hcv := fun n => conv_fill (P := Tryd.prog) (wr.drewN n) 32 9 5 Tryd.underlying32 Tryd.underlying5 Tryd.underlying9 (c := c.size) (hB.drewN n) (fun j _ => ⟨by omega, by have := evF_lt a b c j; omega⟩)
      go_wp2
      have S0 := hid (show (evS a b c c.size).size ≤ lim by rw [evS_size]; unfold lim; omega)
      have Sa := hid (show (a.extract 0 c.size).size ≤ lim by unfold lim; simp; omega)
      have Sb := hid (show (b.extract 0 c.size).size ≤ lim by unfold lim; simp; omega)
      have Sc := hid (show (c).size ≤ lim by unfold lim; omega)
      have hE : crcS (evS a b c c.size) = crcS (a.extract 0 c.size) ^^^ crcS (b.extract 0 c.size) ^^^ crcS (c) := by
        have h := crc_even a b c c.size Hna.out Hnb.out Hnc.out
        rw [extract_all] at h
        exact h
      have y1 := u32_xor_nat (crcS (a.extract 0 c.size)) (crcS (b.extract 0 c.size)) (crcS_lt _) (crcS_lt _)
      have y2 := u32_xor_nat (crcS (a.extract 0 c.size) ^^^ crcS (b.extract 0 c.size)) (crcS (c)) (xor_lt32 (crcS_lt _) (crcS_lt _)) (crcS_lt _)
      have y3 : ((crcS (evS a b c c.size) : Int) == ((crcS (a.extract 0 c.size) ^^^ crcS (b.extract 0 c.size) ^^^ crcS (c) : Nat) : Int)) = true := by rw [hE]; simp
      clear hE
      go_quiet ((first | (go_at_call 10; exact quiet_flip (crc_anyS (evS a b c c.size) S0.out _ hW.out)) | (go_at_call 10; exact quiet_flip (crc_anyS (a.extract 0 c.size) Sa.out _ hW.out)) | (go_at_call 10; exact quiet_flip (crc_anyS (b.extract 0 c.size) Sb.out _ hW.out)) | (go_at_call 10; exact quiet_flip (crc_anyS (c) Sc.out _ hW.out)) | (go_at_call 14; exact quiet_flip (live_any _ hW.out))))
      go_wp2
      go_returns
      exact ⟨rfl, Bw.at_end (below_drewN hbel _)⟩

theorem walk (a : ByteArray) (ha : a.size ≤ 140737488351232) (b : ByteArray) (hb : b.size ≤ 140737488351232) (c : ByteArray) (hc : c.size ≤ 140737488351232) (w : World) (hh : Halves w) :
    Calls Tryd.prog 9 #[.string a, .string b, .string c] w fun e w' => e = .returned (.bool true) ∧ Bw w w' := by
  by_cases h1 : b.size < a.size
  · by_cases h2 : c.size < b.size
    · exact walkC a ha b hb c hc h1 h2 w hh
    · exact walkB a ha b hb c hc h1 h2 w hh
  · by_cases h2 : c.size < a.size
    · exact walkD a ha b hb c hc h1 h2 w hh
    · exact walkA a ha b hb c hc h1 h2 w hh

/-! The frame: from the walk to the statement. -/
set_option maxRecDepth 100000 in
theorem lifted (os : Os) (started : os.Started) (H : Type) (enc : TypeId × Value → H) :
    ReturnsInHanded {} Tryd.checked os 9 .any (fun w args => (Rows.sumsEvenSpec.pre enc Tryd.prog Tryd.f9 [] false w args ∧ laidMetH Tryd.prog Rows.sumsCrcRow.laid w) ∧ sizedMet enc Tryd.prog Tryd.f9 (OpenSpec.ofChange Rows.sumsEvenSpec) false w args)
      (Rows.sumsEvenSpec.post enc Tryd.prog Tryd.f9 false true false false) := by
  refine returnsInHanded_of_change_and (C := Tryd.checked) (X := fun w _ => laidMetH Tryd.prog Rows.sumsCrcRow.laid w) (fun _ _ _ hh h => h.of_heap hh) own started (by kernel_rfl) Tryd.func9
    (ChangeSpec.witness_shaped (enc := enc) (C := Tryd.checked) (os := os) (X := fun w _ => laidMetH Tryd.prog Rows.sumsCrcRow.laid w) false (World.doorLaid Tryd.prog 400 os) #[.string ⟨#[]⟩, .string ⟨#[]⟩, .string ⟨#[]⟩] 8 rfl (World.shaped_of_RefB (by kernel_rfl) (by kernel_rfl)) (by kernel_rfl) (by kernel_rfl) (by kernel_rfl) (door_met os _)) ?_
  intro W base args ds gs before hval0 hW _ hsz0 hL _
  have hval : ∀ (j : Nat) t v, Tryd.f9.params[j]? = some t → args[j]? = some v → Value.okWide Tryd.prog W .any base t v := hval0
  have hW' := hW
  obtain ⟨p, q, hA0, hV, rfl, hfz, hnd⟩ := hW
  have hA : DataW.TrodAll enc Tryd.prog W 0 (fun _ => true) true Tryd.f9.params.toList args.toList ds p := hA0
  have hsz : (DataW.weightsEach Tryd.prog (Tryd.f9.params.toList ++ Rows.sumsEvenSpec.plain.varTypes Tryd.prog) (ds ++ gs)).all (· ≤ reachBytes) = true := hsz0
  rw [Tryd.params9] at hA hval hsz
  obtain ⟨v0, vs0, d0, ds0, p0, q0, hargs, rfl, rfl, h0, r0⟩ := trodAll_cons hA
  obtain ⟨v1, vs1, d1, ds1, p1, q1, rfl, rfl, rfl, h1, r1⟩ := trodAll_cons r0
  obtain ⟨v2, vs2, d2, ds2, p2, q2, rfl, rfl, rfl, h2, r2⟩ := trodAll_cons r1
  obtain ⟨rfl, rfl, rfl⟩ := trodAll_nil r2
  obtain rfl : args = #[v0, v1, v2] := by cases args; simp_all
  obtain ⟨rfl, rfl⟩ := trodVars_none hV
  obtain ⟨a0, rfl, rfl, rfl, w0⟩ := open_string Tryd.underlying9 (hval 0 9 v0 rfl rfl) h0
  have z0 := sized_string hsz (j := 0) (t := 9) (bytes := a0.data.toList) rfl rfl
  obtain ⟨a1, rfl, rfl, rfl, w1⟩ := open_string Tryd.underlying9 (hval 1 9 v1 rfl rfl) h1
  have z1 := sized_string hsz (j := 1) (t := 9) (bytes := a1.data.toList) rfl rfl
  obtain ⟨a2, rfl, rfl, rfl, w2⟩ := open_string Tryd.underlying9 (hval 2 9 v2 rfl rfl) h2
  have z2 := sized_string hsz (j := 2) (t := 9) (bytes := a2.data.toList) rfl rfl
  clear hA0 hval0
  try simp only [List.append_nil] at hW'
  refine (walk a0 (str_le z0) a1 (str_le z1) a2 (str_le z2) W (halves_of hL)).mono fun e W' ⟨he, bel⟩ => ?_
  subst he
  exact ⟨_, rfl, _, _, _, [], _, [], hW', trodAll_mk1 (shut_bool Tryd.underlying4 _), (trodAll_cons_mk (shut_string Tryd.underlying9 w0) (trodAll_cons_mk (shut_string Tryd.underlying9 w1) (trodAll_cons_mk (shut_string Tryd.underlying9 w2) trodAll_mk0))), rfl, Below.frame bel _, fun h => by cases h⟩

theorem holds : Rows.SumsEvenSaid :=
  OpenClaim.holds_of_wide 9 Tryd.f9 rfl rfl rfl rfl rfl rfl rfl ⟨rfl, rfl, rfl, rfl, rfl⟩ rfl rfl rfl rfl rfl (by kernel_rfl) Tryd.func9 (by kernel_rfl)
    (of_decide_eq_true (by kernel_rfl)) (by unfold Func.isWrapper; first | (rw [if_pos (by decide +kernel)]; kernel_rfl) | (rw [if_neg (by decide +kernel)]; exact ⟨rfl, rfl⟩))
    (fun os started H enc _ => lifted os started H enc)

theorem proved : Rows.SumsEvenCardSaid :=
  Claim7.holds_tied_plain_at .later [] [.data] true _ false
    holds (fun _ h => by cases h) (by kernel_rfl) (fun _ h => by cases h) sumsEven_row_tie rfl ⟨rfl, rfl⟩ (by kernel_rfl) rfl
    (fun f fn hf hfn => by
      obtain rfl : f = 9 := Option.some.inj ((show Tryd.prog.funcNamed "mortise/mortiselaw03.SumsEven" = some 9 by kernel_rfl).symm.trans hf) |>.symm
      obtain rfl : fn = Tryd.f9 := (Option.some.inj (Tryd.func9.symm.trans hfn)).symm
      exact ⟨by kernel_rfl, fun j t ht => by
        rw [Tryd.params9] at ht
        have hm : t ∈ [9, 9, 9] := by simpa using Array.mem_of_getElem? ht
        have hall : ([9, 9, 9].all fun u => !Tryd.prog.wantsStandIn u) = true := by kernel_rfl
        exact (show Tryd.prog.wantsStandIn t = false by simpa using List.all_eq_true.1 hall t hm)⟩)
    (by kernel_rfl)
end Go.Proofs.YtkdnlnnmeeeolaaDoor.sumsEven

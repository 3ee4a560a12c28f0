/- The document's symbols of lengths and distances, and the fixed codes' lengths (contracts of the functions). -/
import Derived.Test.YthegehgjpehfkaaMatH
import Derived.Laws.MakeOwn
namespace Go.Proofs.Ythegehgjpehfkaa
open Go.RowKit
set_option linter.unusedVariables false
set_option maxRecDepth 100000 in
set_option maxHeartbeats 1000000 in
theorem dsym_any (n : Nat) (h1 : n ≤ 32768) (w : World) :
    Calls Try.prog 24 #[.int .i64 n] w fun e w' => e = .returned (.int .i64 (dstS n)) ∧ w' = w := by
  go_enter Try.func24, Try.ntmps24
  go_wp2
  go_loop [3, 4] (fun o s => ∃ k : Nat, k ≤ 30 ∧ s = .int .i64 k ∧ o = .int .i64 (symGo dstF 0 n k)) (fun _ s => 30 - (intOf s).toNat)
  case atStart => exact ⟨0, Nat.zero_le _, rfl, rfl⟩
  case round =>
    obtain ⟨k, hk, rfl, rfl⟩ := hrel
    by_cases hlt : k < 30
    · have HD := hid (fun W => rdst_any k (Nat.zero_le _) (by omega) W)
      have HS := hid (show symGo dstF 0 n (k + 1) = if dstF (0 + k) ≤ n then 0 + k else symGo dstF 0 n k from rfl)
      rw [Nat.zero_add] at HS
      generalize dstF k = F at *
      generalize dstX k = X at *
      by_cases hF : F ≤ n
      · have HS2 := hid (HS.out.trans (if_pos hF))
        have hF2 : decide (F ≤ n) = true := decide_eq_true hF
        clear HS
        go_wp2_with fail
        refine (HD.out _).mono ?_
        rintro e w1 ⟨rfl, hw1⟩
        go_wp2
        go_round
        case rel => exact ⟨k + 1, by omega, by go_num, by rw [HS2.out]⟩
        case measure => simp [intOf]; omega
      · have HS2 := hid (HS.out.trans (if_neg hF))
        have hF2 : decide (F ≤ n) = false := decide_eq_false hF
        clear HS
        go_wp2_with fail
        refine (HD.out _).mono ?_
        rintro e w1 ⟨rfl, hw1⟩
        go_wp2
        go_round
        case rel => exact ⟨k + 1, by omega, by go_num, by rw [HS2.out]⟩
        case measure => simp [intOf]; omega
    · obtain rfl : k = 30 := by omega
      go_wp2
      go_returns
      exact ⟨rfl, rfl⟩
set_option maxRecDepth 100000 in
set_option maxHeartbeats 1000000 in
theorem lsym_any (n : Nat) (h1 : n ≤ 258) (w : World) :
    Calls Try.prog 23 #[.int .i64 n] w fun e w' => e = .returned (.int .i64 (lenS n)) ∧ w' = w := by
  by_cases h : n = 258
  · subst h
    go_enter Try.func23, Try.ntmps23
    go_wp2
    go_returns
    exact ⟨rfl, rfl⟩
  have HL := hid (show lenS n = symGo lenF 257 n 28 from if_neg h)
  have t0 : ((n : Int) == 258) = false := by simp; omega
  rw [HL.out]
  clear h
  go_enter Try.func23, Try.ntmps23
  go_wp2
  go_loop [3, 4] (fun o s => ∃ k p : Nat, k ≤ 28 ∧ Hid (257 + k = p) ∧ 257 ≤ p ∧ s = .int .i64 p ∧ o = .int .i64 (symGo lenF 257 n k)) (fun _ s => 285 - (intOf s).toNat)
  case atStart => exact ⟨0, 257, Nat.zero_le _, hid rfl, by omega, rfl, rfl⟩
  case round =>
    obtain ⟨k, p, hk, HP, hp, rfl, rfl⟩ := hrel
    by_cases hlt : p < 285
    · have HD := hid (fun W => rlen_any p (by omega) (by omega) W)
      have HS := hid (show symGo lenF 257 n (k + 1) = if lenF (257 + k) ≤ n then 257 + k else symGo lenF 257 n k from rfl)
      rw [HP.out] at HS
      have hk28 : k < 28 := by have := HP.out; omega
      generalize lenF p = F at *
      generalize lenX p = X at *
      by_cases hF : F ≤ n
      · have HS2 := hid (HS.out.trans (if_pos hF))
        have hF2 : decide (F ≤ n) = true := decide_eq_true hF
        clear HS
        go_wp2_with fail
        refine (HD.out _).mono ?_
        rintro e w1 ⟨rfl, hw1⟩
        go_wp2
        go_round
        case rel => exact ⟨k + 1, p + 1, by omega, hid (by have := HP.out; omega), by omega, by go_num, by rw [HS2.out]⟩
        case measure => simp [intOf]; omega
      · have HS2 := hid (HS.out.trans (if_neg hF))
        have hF2 : decide (F ≤ n) = false := decide_eq_false hF
        clear HS
        go_wp2_with fail
        refine (HD.out _).mono ?_
        rintro e w1 ⟨rfl, hw1⟩
        go_wp2
        go_round
        case rel => exact ⟨k + 1, p + 1, by omega, hid (by have := HP.out; omega), by omega, by go_num, by rw [HS2.out]⟩
        case measure => simp [intOf]; omega
    · have hkp : k = 28 := by have := HP.out; omega
      have hpp : p = 285 := by have := HP.out; omega
      subst hkp hpp
      go_wp2
      go_returns
      exact ⟨rfl, rfl⟩
/-- A row of numbers of which the first k are filled. -/
def fillArr (f : Nat → Nat) (N k : Nat) : Array Value := ((List.range N).map fun i => Value.int .i64 (if i < k then (f i : Int) else 0)).toArray
theorem fillArr_get (f : Nat → Nat) (N k i : Nat) (h : i < N) : (fillArr f N k)[i]? = some (.int .i64 (if i < k then (f i : Int) else 0)) := by simp [fillArr, h]
theorem fillArr_put (f : Nat → Nat) (N k : Nat) (h : k < N) : (fillArr f N k).setIfInBounds k (.int .i64 (f k)) = fillArr f N (k + 1) := by
  apply Array.ext_getElem?
  intro i
  have hsz : (fillArr f N k).size = N := by simp [fillArr]
  rw [Array.getElem?_setIfInBounds, hsz]
  by_cases hi : i < N
  · rw [fillArr_get f N (k + 1) i hi]
    by_cases e : k = i
    · subst e
      rw [if_pos rfl, if_pos h, if_pos (by omega)]
    · rw [if_neg e, fillArr_get f N k i hi]
      by_cases hik : i < k
      · rw [if_pos hik, if_pos (by omega)]
      · rw [if_neg hik, if_neg (by omega)]
  · have e : k ≠ i := by omega
    rw [if_neg e, Array.getElem?_eq_none (by rw [hsz]; omega), Array.getElem?_eq_none (by simp [fillArr]; omega)]
theorem madeCells_fill (f : Nat → Nat) (N : Nat) : madeCells (Value.int .i64 0).cells (N * 1) = fillArr f N 0 := by
  apply Array.ext
  · simp [madeCells, fillArr]
  · intro i h1 h2
    simp [madeCells, fillArr, Value.cells, Nat.mod_one]
theorem intInfo : (Try.prog.info? 3).map (fun i => (i.zero, i.size, i.bytes)) = some (some (.int .i64 0), 1, 8) := by kernel_rfl
theorem make_ints (f : Nat → Nat) (N : Nat) (hN : N ≤ 100000) (w : World) : (Instr.makeSlice 42 (.int .i64 N) (.int .i64 N)).run Try.prog w = .ok (.slice (some ⟨w.heap.size, 0, none⟩) N N) (w.alloc (.cells (fillArr f N 0) 3)) := by
  obtain ⟨i0, hinf, hz0, hz1, hz2⟩ := info_parts intInfo
  have := run_makeSlice (P := Try.prog) (w := w) 42 3 i0 (.int .i64 0) Try.underlying42 hinf hz0 .i64 .i64 N N (by omega) (by omega) (by rw [hz1]; simp; omega) (by rw [hz2]; omega) (by omega)
  rw [this, hz1]
  simp only [Int.toNat_natCast]
  rw [madeCells_fill f N]
set_option maxRecDepth 100000 in
set_option maxHeartbeats 2000000 in
theorem fixed_any (w : World) :
    Calls Try.prog 22 #[] w fun e w' => ∃ g1 g2 : Nat, e = .returned (.tuple #[.slice (some ⟨g1, 0, none⟩) 288 288, .slice (some ⟨g2, 0, none⟩) 32 32]) ∧ Has w' g1 3 (fillArr litF 288 288) ∧ Has w' g2 3 (fillArr (fun _ => 5) 32 32) ∧ Bw w w' := by
  have hmk : ∀ W : World, (Instr.makeSlice 42 (.int .i64 288) (.int .i64 288)).run Try.prog W = .ok (.slice (some ⟨W.heap.size, 0, none⟩) 288 288) (W.alloc (.cells (fillArr litF 288 0) 3)) := fun W => make_ints litF 288 (by omega) W
  have hmk2 : ∀ W : World, (Instr.makeSlice 42 (.int .i64 32) (.int .i64 32)).run Try.prog W = .ok (.slice (some ⟨W.heap.size, 0, none⟩) 32 32) (W.alloc (.cells (fillArr (fun _ => 5) 32 0) 3)) := fun W => make_ints (fun _ => 5) 32 (by omega) W
  have H1 := hid (Has.new w 3 (fillArr litF 288 0))
  have H2 := hid (fun (W : World) => Has.new W 3 (fillArr (fun _ => 5) 32 0))
  go_enter Try.func22, Try.ntmps22
  go_wp2
  go_loopw [3] (fun i wr => ∃ k : Nat, k ≤ 288 ∧ i = .int .i64 k ∧ Has wr w.heap.size 3 (fillArr litF 288 k) ∧ Bw w wr) (fun i _ => 288 - (intOf i).toNat)
  case atStart => exact ⟨0, Nat.zero_le _, rfl, H1.out, (Bw.refl w).alloc _⟩
  case round =>
    rename World => wr
    obtain ⟨k, hk, rfl, hh, hb⟩ := hrel
    have HH := hid hh
    have HB := hid hb
    by_cases hlt : k < 288
    · have c0 : wr.cell? ⟨w.heap.size, k, none⟩ = some (.int .i64 0) := by
        rw [hh.cell k, fillArr_get litF 288 k k hlt, if_neg (by omega)]
      have f0 := hh.frozen k
      clear hh hb hmk hmk2
      by_cases h144 : k < 144
      · have a1 : (k : Int) < 144 := by omega
        have HF := hid (show litF k = 8 from if_pos (.inl h144))
        have HP := hid (HH.out.put k (.int .i64 (litF k)))
        rw [fillArr_put litF 288 k hlt, HF.out] at HP
        clear HF
        go_wp2
        exact ⟨⟨k + 1, by omega, by go_num, HP.out, HB.out.setCell (p := ⟨w.heap.size, k, none⟩) (Nat.le_refl _) _⟩, by simp [intOf]; omega⟩
      · have a1 : ¬ (k : Int) < 144 := by omega
        by_cases h279 : 279 < k
        · have a2 : (279 : Int) < k := by omega
          have HF := hid (show litF k = 8 from if_pos (.inr h279))
          have HP := hid (HH.out.put k (.int .i64 (litF k)))
          rw [fillArr_put litF 288 k hlt, HF.out] at HP
          clear HF
          go_wp2
          exact ⟨⟨k + 1, by omega, by go_num, HP.out, HB.out.setCell (p := ⟨w.heap.size, k, none⟩) (Nat.le_refl _) _⟩, by simp [intOf]; omega⟩
        · have a2 : ¬ (279 : Int) < k := by omega
          by_cases h256 : k < 256
          · have a3 : (k : Int) < 256 := by omega
            have HF := hid (show litF k = 9 from (if_neg (by omega)).trans (if_pos h256))
            have HP := hid (HH.out.put k (.int .i64 (litF k)))
            rw [fillArr_put litF 288 k hlt, HF.out] at HP
            clear HF
            go_wp2
            exact ⟨⟨k + 1, by omega, by go_num, HP.out, HB.out.setCell (p := ⟨w.heap.size, k, none⟩) (Nat.le_refl _) _⟩, by simp [intOf]; omega⟩
          · have a3 : ¬ (k : Int) < 256 := by omega
            have HF := hid (show litF k = 7 from (if_neg (by omega)).trans (if_neg h256))
            have HP := hid (HH.out.put k (.int .i64 (litF k)))
            rw [fillArr_put litF 288 k hlt, HF.out] at HP
            clear HF
            go_wp2
            exact ⟨⟨k + 1, by omega, by go_num, HP.out, HB.out.setCell (p := ⟨w.heap.size, k, none⟩) (Nat.le_refl _) _⟩, by simp [intOf]; omega⟩
    · obtain rfl : k = 288 := by omega
      clear hh hb hmk
      have hd5 : Has (wr.alloc (.cells (fillArr (fun _ => 5) 32 0) 3)) w.heap.size 3 (fillArr litF 288 288) := HH.out.alloc _
      have HD5 := hid hd5
      have hne := HH.out.lt
      have HNE := hid (show wr.heap.size ≠ w.heap.size by omega)
      have HB1 := hid (HB.out.alloc (.cells (fillArr (fun _ => 5) 32 0) 3))
      have hwz := HB.out.size
      clear hd5 hne
      go_wp2
      go_loopw [5] (fun i wi => ∃ k : Nat, k ≤ 32 ∧ i = .int .i64 k ∧ Has wi wr.heap.size 3 (fillArr (fun _ => 5) 32 k) ∧ Has wi w.heap.size 3 (fillArr litF 288 288) ∧ Bw w wi) (fun i _ => 32 - (intOf i).toNat)
      case atStart => exact ⟨0, Nat.zero_le _, rfl, H2.out _, HD5.out, HB1.out⟩
      case round =>
        rename World => wi
        obtain ⟨k, hk, rfl, hh, hh2, hb⟩ := hrel
        have HH := hid hh
        have HH2 := hid hh2
        have HB := hid hb
        by_cases hlt : k < 32
        · have c0 : wi.cell? ⟨wr.heap.size, k, none⟩ = some (.int .i64 0) := by
            rw [hh.cell k, fillArr_get (fun _ => 5) 32 k k hlt, if_neg (by omega)]
          have f0 := hh.frozen k
          have HP := hid (HH.out.put k (.int .i64 5))
          have e5 := fillArr_put (fun _ => 5) 32 k hlt
          rw [show (fillArr (fun _ => 5) 32 k).setIfInBounds k (.int .i64 5) = fillArr (fun _ => 5) 32 (k + 1) from e5] at HP
          have HP2 := hid (HH2.out.far (p := ⟨wr.heap.size, k, none⟩) (fun e => HNE.out e.symm) (.int .i64 5))
          clear hh hh2 hb e5 hmk2
          go_wp2
          exact ⟨⟨k + 1, by omega, by go_num, HP.out, HP2.out, HB.out.setCell (p := ⟨wr.heap.size, k, none⟩) hwz _⟩, by simp [intOf]; omega⟩
        · obtain rfl : k = 32 := by omega
          clear hmk2
          go_wp2
          go_returns
          exact ⟨_, _, rfl, HH2.out, HH.out, HB.out⟩
end Go.Proofs.Ythegehgjpehfkaa

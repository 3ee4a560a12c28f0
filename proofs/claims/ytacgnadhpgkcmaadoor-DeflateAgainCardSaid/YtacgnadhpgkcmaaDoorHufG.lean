/- Codes (contract of the function). -/
import Derived.Test.YtacgnadhpgkcmaaDoorHufC
import Derived.Test.YtacgnadhpgkcmaaDoorHufD
import Derived.Laws.MakeOwn
namespace Go.Proofs.YtacgnadhpgkcmaaDoor
open Go.RowKit
set_option linter.unusedVariables false
/-- The next code of each length, when k symbols have theirs. -/
def nxtC (l : List Int) (k n : Nat) : Nat := fstC l n + tal (l.take k) n
def nArr (l : List Int) (k : Nat) : Array Value := ((List.range 16).map fun n => Value.int .i64 (nxtC l k n : Nat)).toArray
/-- A symbol's code. -/
def codeF (l : List Int) (i : Nat) : Nat := if l.getD i 0 = 0 then 0 else nxtC l i (l.getD i 0).toNat
def cArr (l : List Int) (len k : Nat) : Array Value := ((List.range len).map fun i => Value.int .i64 (if i < k then (codeF l i : Nat) else 0 : Nat)).toArray
theorem nArr_get (l : List Int) (k n : Nat) (h : n < 16) : (nArr l k)[n]? = some (.int .i64 (nxtC l k n : Nat)) := by simp [nArr, h]
theorem cArr_get (l : List Int) (len k i : Nat) (h : i < len) : (cArr l len k)[i]? = some (.int .i64 (if i < k then (codeF l i : Nat) else 0 : Nat)) := by simp [cArr, h]
theorem nArr_zero (l : List Int) : nArr l 0 = #[.int .i64 (fstC l 0 : Nat), .int .i64 (fstC l 1 : Nat), .int .i64 (fstC l 2 : Nat), .int .i64 (fstC l 3 : Nat), .int .i64 (fstC l 4 : Nat), .int .i64 (fstC l 5 : Nat), .int .i64 (fstC l 6 : Nat), .int .i64 (fstC l 7 : Nat), .int .i64 (fstC l 8 : Nat), .int .i64 (fstC l 9 : Nat), .int .i64 (fstC l 10 : Nat), .int .i64 (fstC l 11 : Nat), .int .i64 (fstC l 12 : Nat), .int .i64 (fstC l 13 : Nat), .int .i64 (fstC l 14 : Nat), .int .i64 (fstC l 15 : Nat)] := by
  simp [nArr, nxtC, tal_nil, List.range, List.range.loop]
theorem nArr_same (l : List Int) (k : Nat) (h : l.take (k + 1) = l.take k ++ [0]) : nArr l (k + 1) = nArr l k := by
  unfold nArr nxtC
  congr 2
  funext n
  have := tal_snoc (l.take k) 0 n
  rw [if_neg (by omega)] at this
  rw [h]
  exact congrArg (fun m : Nat => Value.int .i64 ((fstC l n + m : Nat) : Int)) this
theorem nArr_put (l : List Int) (k x : Nat) (h0 : 0 < x) (hx : x < 16) (h : l.take (k + 1) = l.take k ++ [(x : Int)]) : (nArr l k).setIfInBounds x (.int .i64 (nxtC l k x + 1 : Nat)) = nArr l (k + 1) := by
  apply Array.ext_getElem?
  intro i
  have hsz : (nArr l k).size = 16 := by simp [nArr]
  rw [Array.getElem?_setIfInBounds, hsz]
  by_cases hi : i < 16
  · rw [nArr_get l (k + 1) i hi]
    have e : nxtC l (k + 1) i = if x = i ∧ 0 < i then nxtC l k i + 1 else nxtC l k i := by
      unfold nxtC
      rw [h, tal_snoc]
      split <;> omega
    rw [e]
    by_cases hxi : x = i
    · subst hxi; rw [if_pos rfl, if_pos hx, if_pos ⟨rfl, h0⟩]
    · rw [if_neg hxi, nArr_get l k i hi, if_neg (fun a => hxi a.1)]
  · rw [if_neg (by omega), Array.getElem?_eq_none (by rw [hsz]; omega), Array.getElem?_eq_none (by simp [nArr]; omega)]
theorem cArr_same (l : List Int) (len k : Nat) (h : codeF l k = 0) : cArr l len (k + 1) = cArr l len k := by
  unfold cArr
  congr 2
  funext i
  by_cases hi : i = k
  · subst hi; rw [if_pos (by omega), if_neg (by omega), h]
  · by_cases hk : i < k
    · rw [if_pos (by omega), if_pos hk]
    · rw [if_neg (by omega), if_neg hk]
theorem cArr_put (l : List Int) (len k : Nat) (hk : k < len) : (cArr l len k).setIfInBounds k (.int .i64 (codeF l k : Nat)) = cArr l len (k + 1) := by
  apply Array.ext_getElem?
  intro i
  have hsz : (cArr l len k).size = len := by simp [cArr]
  rw [Array.getElem?_setIfInBounds, hsz]
  by_cases hi : i < len
  · rw [cArr_get l len (k + 1) i hi]
    by_cases e : k = i
    · subst e; rw [if_pos rfl, if_pos hk, if_pos (by omega)]
    · rw [if_neg e, cArr_get l len k i hi]
      by_cases h2 : i < k
      · rw [if_pos h2, if_pos (by omega)]
      · rw [if_neg h2, if_neg (by omega)]
  · have e : k ≠ i := by omega
    rw [if_neg e, Array.getElem?_eq_none (by rw [hsz]; omega), Array.getElem?_eq_none (by simp [cArr]; omega)]
theorem intInfo : (Tryd.prog.info? 3).map (fun i => (i.zero, i.size, i.bytes)) = some (some (.int .i64 0), 1, 8) := by kernel_rfl
theorem make_ints (l : List Int) (n : Nat) (hn : n ≤ 320) (w : World) : (Instr.makeSlice 32 (.int .i64 n) (.int .i64 n)).run Tryd.prog w = .ok (.slice (some ⟨w.heap.size, 0, none⟩) n n) (w.alloc (.cells (cArr l n 0) 3)) := by
  obtain ⟨i0, hinf, hz0, hz1, hz2⟩ := info_parts intInfo
  have := run_makeSlice (P := Tryd.prog) (w := w) 32 3 i0 (.int .i64 0) Tryd.underlying32 hinf hz0 .i64 .i64 n n (by omega) (by omega) (by rw [hz1]; simp; omega) (by rw [hz2]; omega) (by omega)
  rw [this, hz1]
  simp only [Int.toNat_natCast]
  have hm : madeCells (Value.int .i64 0).cells (n * 1) = cArr l n 0 := by
    apply Array.ext
    · simp [madeCells, cArr]
    · intro i h1 h2
      simp [madeCells, cArr, Value.cells, Nat.mod_one]
  rw [hm]
set_option maxRecDepth 100000 in
set_option maxHeartbeats 4000000 in
theorem codes_bad (a : Option Addr) (len cap : Nat) (l : List Int) (hll : Hid (l.length = len)) (hE : checkE l ≠ 0) (w : World) (hst : ZsAt w a l) :
    Calls Tryd.prog 40 #[.slice a len cap] w fun e w' => e = .returned (.tuple #[.slice none 0 0, .int .i64 (checkE l)]) ∧ Bw w w' := by
  have HC := hid (check_any a len cap l hll w hst)
  generalize checkE l = ce at *
  have hne : (ce != 0) = true := by simpa using hE
  clear hst
  go_enter Tryd.func40, Tryd.ntmps40
  go_wp2_with fail
  refine HC.out.mono ?_
  rintro e w2 ⟨rfl, hb⟩
  have HB := hid hb
  clear hb
  go_wp2
  go_returns
  exact ⟨rfl, HB.out⟩
set_option maxRecDepth 100000 in
set_option maxHeartbeats 8000000 in
theorem codes_ok (a : Option Addr) (len cap : Nat) (l : List Int) (hll : Hid (l.length = len)) (hE : checkE l = 0) (w : World) (hst : ZsAt w a l) :
    Calls Tryd.prog 40 #[.slice a len cap] w fun e w' => ∃ rb : Nat, e = .returned (.tuple #[.slice (some ⟨rb, 0, none⟩) len len, .int .i64 0]) ∧ w.heap.size ≤ rb ∧ Has w' rb 3 (cArr l len len) ∧ Bw w w' := by
  have HC := hid (check_any a len cap l hll w hst)
  have HN := hid (fun (W : World) (h : Bw w W) => count_any a len cap l hll W (hst.bw h))
  rw [hE] at HC
  have hok : okLens l = true := by
    unfold checkE at hE
    cases h : okLens l with
    | true => rfl
    | false => rw [h] at hE; cases hE
  have e1 : cntV l = .agg #[.int .i64 (tal l 0 : Nat), .int .i64 (tal l 1 : Nat), .int .i64 (tal l 2 : Nat), .int .i64 (tal l 3 : Nat), .int .i64 (tal l 4 : Nat), .int .i64 (tal l 5 : Nat), .int .i64 (tal l 6 : Nat), .int .i64 (tal l 7 : Nat), .int .i64 (tal l 8 : Nat), .int .i64 (tal l 9 : Nat), .int .i64 (tal l 10 : Nat), .int .i64 (tal l 11 : Nat), .int .i64 (tal l 12 : Nat), .int .i64 (tal l 13 : Nat), .int .i64 (tal l 14 : Nat), .int .i64 (tal l 15 : Nat)] := by unfold cntV; rw [hok, if_pos rfl, talArr_eq]
  rw [e1, hok] at HN
  have hok2 := hok
  unfold okLens at hok2
  obtain ⟨h32, hall⟩ := Bool.and_eq_true_iff.1 hok2
  have h320 : l.length ≤ 320 := of_decide_eq_true h32
  have hln : len ≤ 320 := by rw [← hll.out]; exact h320
  have HF := hid (fun W => firsts_any l h320 W)
  have HALL := hid (fun x hx => of_decide_eq_true (List.all_eq_true.1 hall x hx) : ∀ x ∈ l, 0 ≤ x ∧ x ≤ 15)
  have HST := hid hst
  have hmk := fun W => make_ints l len hln W
  have HZ := hid (nArr_zero l)
  clear hE hok e1 hok2 h32 hall hst
  go_enter Tryd.func40, Tryd.ntmps40
  go_wp2_with fail
  refine HC.out.mono ?_
  rintro e w2 ⟨rfl, hb⟩
  have HB2 := hid hb
  clear hb
  go_wp2_with fail
  refine (HN.out _ HB2.out).mono ?_
  rintro e w3 ⟨rfl, hb⟩
  have HB3 := hid ((HB2.out.trans hb).alloc (.cells #[.int .i64 (tal l 0 : Nat), .int .i64 (tal l 1 : Nat), .int .i64 (tal l 2 : Nat), .int .i64 (tal l 3 : Nat), .int .i64 (tal l 4 : Nat), .int .i64 (tal l 5 : Nat), .int .i64 (tal l 6 : Nat), .int .i64 (tal l 7 : Nat), .int .i64 (tal l 8 : Nat), .int .i64 (tal l 9 : Nat), .int .i64 (tal l 10 : Nat), .int .i64 (tal l 11 : Nat), .int .i64 (tal l 12 : Nat), .int .i64 (tal l 13 : Nat), .int .i64 (tal l 14 : Nat), .int .i64 (tal l 15 : Nat)] 106))
  clear hb
  go_wp2_with fail
  refine (HF.out _).mono ?_
  rintro e w4 ⟨rfl, hb⟩
  have HB4 := hid ((HB3.out.trans hb).alloc (.cells #[.int .i64 (fstC l 0 : Nat), .int .i64 (fstC l 1 : Nat), .int .i64 (fstC l 2 : Nat), .int .i64 (fstC l 3 : Nat), .int .i64 (fstC l 4 : Nat), .int .i64 (fstC l 5 : Nat), .int .i64 (fstC l 6 : Nat), .int .i64 (fstC l 7 : Nat), .int .i64 (fstC l 8 : Nat), .int .i64 (fstC l 9 : Nat), .int .i64 (fstC l 10 : Nat), .int .i64 (fstC l 11 : Nat), .int .i64 (fstC l 12 : Nat), .int .i64 (fstC l 13 : Nat), .int .i64 (fstC l 14 : Nat), .int .i64 (fstC l 15 : Nat)] 105))
  have HS4 := hid (HB3.out.trans hb).size
  have HX4 := hid (Has.new w4 105 #[.int .i64 (fstC l 0 : Nat), .int .i64 (fstC l 1 : Nat), .int .i64 (fstC l 2 : Nat), .int .i64 (fstC l 3 : Nat), .int .i64 (fstC l 4 : Nat), .int .i64 (fstC l 5 : Nat), .int .i64 (fstC l 6 : Nat), .int .i64 (fstC l 7 : Nat), .int .i64 (fstC l 8 : Nat), .int .i64 (fstC l 9 : Nat), .int .i64 (fstC l 10 : Nat), .int .i64 (fstC l 11 : Nat), .int .i64 (fstC l 12 : Nat), .int .i64 (fstC l 13 : Nat), .int .i64 (fstC l 14 : Nat), .int .i64 (fstC l 15 : Nat)])
  clear hb
  go_wp2_with fail
  rw [← HZ.out] at HX4 HB4 ⊢
  clear HC HN HF hmk HZ HB2 HB3
  generalize Value.agg #[.int .i64 (tal l 0 : Nat), .int .i64 (tal l 1 : Nat), .int .i64 (tal l 2 : Nat), .int .i64 (tal l 3 : Nat), .int .i64 (tal l 4 : Nat), .int .i64 (tal l 5 : Nat), .int .i64 (tal l 6 : Nat), .int .i64 (tal l 7 : Nat), .int .i64 (tal l 8 : Nat), .int .i64 (tal l 9 : Nat), .int .i64 (tal l 10 : Nat), .int .i64 (tal l 11 : Nat), .int .i64 (tal l 12 : Nat), .int .i64 (tal l 13 : Nat), .int .i64 (tal l 14 : Nat), .int .i64 (tal l 15 : Nat)] = vt at *
  have HN5 := hid (HX4.out.alloc (.cells (cArr l len 0) 3))
  have HC5 := hid (Has.new (w4.alloc (.cells (nArr l 0) 105)) 3 (cArr l len 0))
  have HB5 := hid (HB4.out.alloc (.cells (cArr l len 0) 3))
  have HNB := hid (show w.heap.size ≤ w4.heap.size from HS4.out)
  clear HS4
  have hsz : (w4.alloc (.cells (nArr l 0) 105)).heap.size = w4.heap.size + 1 := by simp
  rw [hsz] at HC5
  clear hsz HX4 HB4
  generalize (w4.alloc (.cells (nArr l 0) 105)).alloc (.cells (cArr l len 0) 3) = W5 at *
  generalize w4.heap.size = nb at *
  go_loopw [28] (fun i wr => ∃ k : Nat, k ≤ len ∧ i = .int .i64 k ∧ Has wr nb 105 (nArr l k) ∧ Has wr (nb + 1) 3 (cArr l len k) ∧ Bw w wr) (fun i _ => len - (intOf i).toNat)
  case atStart => exact ⟨0, Nat.zero_le _, rfl, HN5.out, HC5.out, HB5.out⟩
  case round =>
    clear HN5 HC5 HB5
    obtain ⟨k, hk, rfl, hn, hc, hbw⟩ := hrel
    have HN := hid hn
    have HC := hid hc
    have HB := hid hbw
    by_cases hlt : k < len
    · have hlti : (k : Int) < len := by omega
      have hkl : k < l.length := by rw [hll.out]; omega
      have hx := HALL.out l[k] (List.getElem_mem hkl)
      have hgd : l.getD k 0 = l[k] := by simp [List.getD, hkl]
      obtain ⟨b, off, rfl, hbl, q0⟩ := HST.out k hkl
      have hts : l.take (k + 1) = l.take k ++ [l[k]] := List.take_succ_eq_append_getElem hkl
      have HTS := hid hts
      generalize l[k] = x at *
      have x0 : wr.cell? ⟨b, off + k, none⟩ = some (.int .i64 x) := (World.cell?_of_block (hbw.block b hbl)).trans q0
      obtain ⟨hx1, hx2⟩ := hx
      have HGD := hid hgd
      clear hts hkl hn hc hbw q0 hgd
      have hor : x = 0 ∨ (0 < x ∧ x ≤ 15) := by omega
      rcases hor with rfl | ⟨hp0, hp15⟩
      · have HC0 := hid (cArr_same l len k (by unfold codeF; rw [HGD.out, if_pos rfl]))
        have HN0 := hid (nArr_same l k HTS.out)
        go_wp2
        go_roundw
        case rel => exact ⟨k + 1, by omega, by go_num, by rw [HN0.out]; exact HN.out, by rw [HC0.out]; exact HC.out, HB.out⟩
        case measure => simp [intOf]; omega
      · obtain ⟨m, rfl⟩ := Int.eq_ofNat_of_zero_le (Int.le_of_lt hp0)
        have hm0 : 0 < m := by omega
        have hm15 : m ≤ 15 := by omega
        have hcf : codeF l k = nxtC l k m := by unfold codeF; rw [HGD.out, if_neg (by omega), Int.toNat_natCast]
        have hb1 := fstC_le l h320 m (by omega)
        have hb2 := tal_le (l.take k) m
        have hb3 : (l.take k).length ≤ k := List.length_take_le _ _
        have hbd : nxtC l k m < 4611686018427387904 := by unfold nxtC; omega
        have cm : wr.cell? ⟨nb, m, none⟩ = some (.int .i64 (nxtC l k m : Nat)) := (HN.out.cell m).trans (nArr_get l k m (by omega))
        have cf := HC.out.frozen k
        have cc : wr.cell? ⟨nb + 1, k, none⟩ = some (.int .i64 0) := by
          rw [HC.out.cell k, cArr_get l len k k hlt, if_neg (by omega)]; rfl
        have HPC := hid (HC.out.put k (.int .i64 (nxtC l k m : Nat)))
        have HPN := hid (HN.out.far (p := ⟨nb + 1, k, none⟩) (show nb ≠ nb + 1 by omega) (.int .i64 (nxtC l k m : Nat)))
        have HPB := hid (Below.setCell HB.out (p := ⟨nb + 1, k, none⟩) (show w.heap.size ≤ nb + 1 by have := HNB.out; omega) (.int .i64 (nxtC l k m : Nat)))
        rw [← hcf, cArr_put l len k hlt, hcf] at HPC
        have hr9 : (m : Int) < 16 := by omega
        have d2 : decide (0 < (m : Int)) = true := decide_eq_true hp0
        clear hb1 hb2 hb3 hcf
        generalize hv : nxtC l k m = v at *
        have cm2 : (wr.setCell ⟨nb + 1, k, none⟩ (.int .i64 (v : Nat))).cell? ⟨nb, m, none⟩ = some (.int .i64 (v : Nat)) := (HPN.out.cell m).trans (by rw [nArr_get l k m (by omega), hv])
        have cfn := HPN.out.frozen m
        have HPN2 := hid (HPN.out.put m (.int .i64 (v + 1 : Nat)))
        have hnp := nArr_put l k m hm0 (by omega) HTS.out
        rw [hv] at hnp
        rw [hnp] at HPN2
        clear hv hnp
        go_wp2
        refine ⟨⟨k + 1, by omega, by go_num, by simpa using HPN2.out, ?_, ?_⟩, by simp [intOf]; omega⟩
        · exact HPC.out.far (p := ⟨nb, m, none⟩) (show nb + 1 ≠ nb by omega) _
        · exact Below.setCell HPB.out (p := ⟨nb, m, none⟩) HNB.out _
    · obtain rfl : k = len := by omega
      go_wp2
      go_returns
      exact ⟨nb + 1, rfl, by have := HNB.out; omega, HC.out, HB.out⟩
end Go.Proofs.YtacgnadhpgkcmaaDoor

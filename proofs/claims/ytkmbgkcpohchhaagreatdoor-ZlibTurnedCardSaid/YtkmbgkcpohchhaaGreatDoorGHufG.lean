import Derived.Test.YtkmbgkcpohchhaaGreatDoorGHufA3
import Derived.Test.YtkmbgkcpohchhaaGreatDoorHufD
import Derived.Laws.MakeOwn
import Derived.Test.YtkmbgkcpohchhaaGreatDoorGBase
import Derived.Laws.BitsAllLaws
import Derived.Test.YtkmbgkcpohchhaaGreatDoorRows
import Derived.Deep.QuietTactic
import Derived.BigQuiet
import Derived.OwnWalk
import Derived.Maps.AppendAt
namespace Go.Proofs.YtkmbgkcpohchhaaGreatDoor
open Go.RowKit
set_option linter.unusedVariables false
def nxtC (l : List Int) (k n : Nat) : Nat := fstC l n + tal (l.take k) n
def nArr (l : List Int) (k : Nat) : Array Value := ((List.range 16).map fun n => Value.int .i64 (nxtC l k n : Nat)).toArray
def codeF (l : List Int) (i : Nat) : Nat := if l.getD i 0 = 0 then 0 else nxtC l i (l.getD i 0).toNat
def cArr (l : List Int) (len k : Nat) : Array Value := ((List.range len).map fun i => Value.int .i64 (if i < k then (codeF l i : Nat) else 0 : Nat)).toArray
theorem nArr_get (l : List Int) (k n : Nat) (h : n < 16) : (nArr l k)[n]? = some (.int .i64 (nxtC l k n : Nat)) := by simp [nArr, h]
theorem cArr_get (l : List Int) (len k i : Nat) (h : i < len) : (cArr l len k)[i]? = some (.int .i64 (if i < k then (codeF l i : Nat) else 0 : Nat)) := by simp [cArr, h]
theorem nArr_zero (l : List Int) : nArr l 0 = #[.int .i64 (fstC l 0 : Nat), .int .i64 (fstC l 1 : Nat), .int .i64 (fstC l 2 : Nat), .int .i64 (fstC l 3 : Nat), .int .i64 (fstC l 4 : Nat), .int .i64 (fstC l 5 : Nat), .int .i64 (fstC l 6 : Nat), .int .i64 (fstC l 7 : Nat), .int .i64 (fstC l 8 : Nat), .int .i64 (fstC l 9 : Nat), .int .i64 (fstC l 10 : Nat), .int .i64 (fstC l 11 : Nat), .int .i64 (fstC l 12 : Nat), .int .i64 (fstC l 13 : Nat), .int .i64 (fstC l 14 : Nat), .int .i64 (fstC l 15 : Nat)] := by
  simp [nArr, nxtC, tal_nil, List.range, List.range.loop]
theorem nArr_same (l : List Int) (k : Nat) (h : l.take (k + 1) = l.take k ++ [0]) : nArr l (k + 1) = nArr l k := by
  unfold nArr nxtC
  congr 2
  funext n
  have := tal_snoc (l.take k) 0 n
  rw [if_neg (by omega)] at this
  rw [h]
  exact congrArg (fun m : Nat => Value.int .i64 ((fstC l n + m : Nat) : Int)) this
theorem nArr_put (l : List Int) (k x : Nat) (h0 : 0 < x) (hx : x < 16) (h : l.take (k + 1) = l.take k ++ [(x : Int)]) : (nArr l k).setIfInBounds x (.int .i64 (nxtC l k x + 1 : Nat)) = nArr l (k + 1) := by
  apply Array.ext_getElem?
  intro i
  have hsz : (nArr l k).size = 16 := by simp [nArr]
  rw [Array.getElem?_setIfInBounds, hsz]
  by_cases hi : i < 16
  · rw [nArr_get l (k + 1) i hi]
    have e : nxtC l (k + 1) i = if x = i ∧ 0 < i then nxtC l k i + 1 else nxtC l k i := by
      unfold nxtC
      rw [h, tal_snoc]
      split <;> omega
    rw [e]
    by_cases hxi : x = i
    · subst hxi; rw [if_pos rfl, if_pos hx, if_pos ⟨rfl, h0⟩]
    · rw [if_neg hxi, nArr_get l k i hi, if_neg (fun a => hxi a.1)]
  · rw [if_neg (by omega), Array.getElem?_eq_none (by rw [hsz]; omega), Array.getElem?_eq_none (by simp [nArr]; omega)]
theorem cArr_same (l : List Int) (len k : Nat) (h : codeF l k = 0) : cArr l len (k + 1) = cArr l len k := by
  unfold cArr
  congr 2
  funext i
  by_cases hi : i = k
  · subst hi; rw [if_pos (by omega), if_neg (by omega), h]
  · by_cases hk : i < k
    · rw [if_pos (by omega), if_pos hk]
    · rw [if_neg (by omega), if_neg hk]
theorem cArr_put (l : List Int) (len k : Nat) (hk : k < len) : (cArr l len k).setIfInBounds k (.int .i64 (codeF l k : Nat)) = cArr l len (k + 1) := by
  apply Array.ext_getElem?
  intro i
  have hsz : (cArr l len k).size = len := by simp [cArr]
  rw [Array.getElem?_setIfInBounds, hsz]
  by_cases hi : i < len
  · rw [cArr_get l len (k + 1) i hi]
    by_cases e : k = i
    · subst e; rw [if_pos rfl, if_pos hk, if_pos (by omega)]
    · rw [if_neg e, cArr_get l len k i hi]
      by_cases h2 : i < k
      · rw [if_pos h2, if_pos (by omega)]
      · rw [if_neg h2, if_neg (by omega)]
  · have e : k ≠ i := by omega
    rw [if_neg e, Array.getElem?_eq_none (by rw [hsz]; omega), Array.getElem?_eq_none (by simp [cArr]; omega)]
theorem intInfo : (Tryz.prog.info? 3).map (fun i => (i.zero, i.size, i.bytes)) = some (some (.int .i64 0), 1, 8) := by kernel_rfl
theorem make_ints (l : List Int) (n : Nat) (hn : n ≤ 320) (w : World) : (Instr.makeSlice 44 (.int .i64 n) (.int .i64 n)).run Tryz.prog w = .ok (.slice (some ⟨w.heap.size, 0, none⟩) n n) (w.alloc (.cells (cArr l n 0) 3)) := by
  obtain ⟨i0, hinf, hz0, hz1, hz2⟩ := info_parts intInfo
  have := run_makeSlice (P := Tryz.prog) (w := w) 44 3 i0 (.int .i64 0) Tryz.underlying44 hinf hz0 .i64 .i64 n n (by omega) (by omega) (by rw [hz1]; simp; omega) (by rw [hz2]; omega) (by omega)
  rw [this, hz1]
  simp only [Int.toNat_natCast]
  have hm : madeCells (Value.int .i64 0).cells (n * 1) = cArr l n 0 := by
    apply Array.ext
    · simp [madeCells, cArr]
    · intro i h1 h2
      simp [madeCells, cArr, Value.cells, Nat.mod_one]
  rw [hm]
set_option maxRecDepth 100000 in
set_option maxHeartbeats 4000000 in
theorem codes_bad (a : Option Addr) (len cap : Nat) (l : List Int) (hll : Hid (l.length = len)) (hE : checkE l ≠ 0) (w : World) (hst : ZsAt w a l) :
    Calls Tryz.prog 91 #[.slice a len cap] w fun e w' => e = .returned (.tuple #[.slice none 0 0, .int .i64 (checkE l)]) ∧ Bw w w' := by
  have HC := hid (check_any a len cap l hll w hst)
  generalize checkE l = ce at *
  have hne : (ce != 0) = true := by simpa using hE
  clear hst
  go_enter Tryz.func91, Tryz.ntmps91
  go_wp2_with fail
  refine HC.out.mono ?_
  rintro e w2 ⟨rfl, hb⟩
  have HB := hid hb
  clear hb
  go_wp2
  go_returns
  exact ⟨rfl, HB.out⟩
set_option maxRecDepth 100000 in
set_option maxHeartbeats 8000000 in
theorem codes_ok (a : Option Addr) (len cap : Nat) (l : List Int) (hll : Hid (l.length = len)) (hE : checkE l = 0) (w : World) (hst : ZsAt w a l) :
    Calls Tryz.prog 91 #[.slice a len cap] w fun e w' => ∃ rb : Nat, e = .returned (.tuple #[.slice (some ⟨rb, 0, none⟩) len len, .int .i64 0]) ∧ w.heap.size ≤ rb ∧ Has w' rb 3 (cArr l len len) ∧ Bw w w' := by
  have HC := hid (check_any a len cap l hll w hst)
  have HN := hid (fun (W : World) (h : Bw w W) => count_any a len cap l hll W (hst.bw h))
  rw [hE] at HC
  have hok : okLens l = true := by
    unfold checkE at hE
    cases h : okLens l with
    | true => rfl
    | false => rw [h] at hE; cases hE
  have e1 : cntV l = .agg #[.int .i64 (tal l 0 : Nat), .int .i64 (tal l 1 : Nat), .int .i64 (tal l 2 : Nat), .int .i64 (tal l 3 : Nat), .int .i64 (tal l 4 : Nat), .int .i64 (tal l 5 : Nat), .int .i64 (tal l 6 : Nat), .int .i64 (tal l 7 : Nat), .int .i64 (tal l 8 : Nat), .int .i64 (tal l 9 : Nat), .int .i64 (tal l 10 : Nat), .int .i64 (tal l 11 : Nat), .int .i64 (tal l 12 : Nat), .int .i64 (tal l 13 : Nat), .int .i64 (tal l 14 : Nat), .int .i64 (tal l 15 : Nat)] := by unfold cntV; rw [hok, if_pos rfl, talArr_eq]
  rw [e1, hok] at HN
  have hok2 := hok
  unfold okLens at hok2
  obtain ⟨h32, hall⟩ := Bool.and_eq_true_iff.1 hok2
  have h320 : l.length ≤ 320 := of_decide_eq_true h32
  have hln : len ≤ 320 := by rw [← hll.out]; exact h320
  have HF := hid (fun W => firsts_any l h320 W)
  have HALL := hid (fun x hx => of_decide_eq_true (List.all_eq_true.1 hall x hx) : ∀ x ∈ l, 0 ≤ x ∧ x ≤ 15)
  have HST := hid hst
  have hmk := fun W => make_ints l len hln W
  have HZ := hid (nArr_zero l)
  clear hE hok e1 hok2 h32 hall hst
  go_enter Tryz.func91, Tryz.ntmps91
  go_wp2_with fail
  refine HC.out.mono ?_
  rintro e w2 ⟨rfl, hb⟩
  have HB2 := hid hb
  clear hb
  go_wp2_with fail
  refine (HN.out _ HB2.out).mono ?_
  rintro e w3 ⟨rfl, hb⟩
  have HB3 := hid ((HB2.out.trans hb).alloc (.cells #[.int .i64 (tal l 0 : Nat), .int .i64 (tal l 1 : Nat), .int .i64 (tal l 2 : Nat), .int .i64 (tal l 3 : Nat), .int .i64 (tal l 4 : Nat), .int .i64 (tal l 5 : Nat), .int .i64 (tal l 6 : Nat), .int .i64 (tal l 7 : Nat), .int .i64 (tal l 8 : Nat), .int .i64 (tal l 9 : Nat), .int .i64 (tal l 10 : Nat), .int .i64 (tal l 11 : Nat), .int .i64 (tal l 12 : Nat), .int .i64 (tal l 13 : Nat), .int .i64 (tal l 14 : Nat), .int .i64 (tal l 15 : Nat)] 170))
  clear hb
  go_wp2_with fail
  refine (HF.out _).mono ?_
  rintro e w4 ⟨rfl, hb⟩
  have HB4 := hid ((HB3.out.trans hb).alloc (.cells #[.int .i64 (fstC l 0 : Nat), .int .i64 (fstC l 1 : Nat), .int .i64 (fstC l 2 : Nat), .int .i64 (fstC l 3 : Nat), .int .i64 (fstC l 4 : Nat), .int .i64 (fstC l 5 : Nat), .int .i64 (fstC l 6 : Nat), .int .i64 (fstC l 7 : Nat), .int .i64 (fstC l 8 : Nat), .int .i64 (fstC l 9 : Nat), .int .i64 (fstC l 10 : Nat), .int .i64 (fstC l 11 : Nat), .int .i64 (fstC l 12 : Nat), .int .i64 (fstC l 13 : Nat), .int .i64 (fstC l 14 : Nat), .int .i64 (fstC l 15 : Nat)] 169))
  have HS4 := hid (HB3.out.trans hb).size
  have HX4 := hid (Has.new w4 169 #[.int .i64 (fstC l 0 : Nat), .int .i64 (fstC l 1 : Nat), .int .i64 (fstC l 2 : Nat), .int .i64 (fstC l 3 : Nat), .int .i64 (fstC l 4 : Nat), .int .i64 (fstC l 5 : Nat), .int .i64 (fstC l 6 : Nat), .int .i64 (fstC l 7 : Nat), .int .i64 (fstC l 8 : Nat), .int .i64 (fstC l 9 : Nat), .int .i64 (fstC l 10 : Nat), .int .i64 (fstC l 11 : Nat), .int .i64 (fstC l 12 : Nat), .int .i64 (fstC l 13 : Nat), .int .i64 (fstC l 14 : Nat), .int .i64 (fstC l 15 : Nat)])
  clear hb
  go_wp2_with fail
  rw [← HZ.out] at HX4 HB4 ⊢
  clear HC HN HF hmk HZ HB2 HB3
  generalize Value.agg #[.int .i64 (tal l 0 : Nat), .int .i64 (tal l 1 : Nat), .int .i64 (tal l 2 : Nat), .int .i64 (tal l 3 : Nat), .int .i64 (tal l 4 : Nat), .int .i64 (tal l 5 : Nat), .int .i64 (tal l 6 : Nat), .int .i64 (tal l 7 : Nat), .int .i64 (tal l 8 : Nat), .int .i64 (tal l 9 : Nat), .int .i64 (tal l 10 : Nat), .int .i64 (tal l 11 : Nat), .int .i64 (tal l 12 : Nat), .int .i64 (tal l 13 : Nat), .int .i64 (tal l 14 : Nat), .int .i64 (tal l 15 : Nat)] = vt at *
  have HN5 := hid (HX4.out.alloc (.cells (cArr l len 0) 3))
  have HC5 := hid (Has.new (w4.alloc (.cells (nArr l 0) 169)) 3 (cArr l len 0))
  have HB5 := hid (HB4.out.alloc (.cells (cArr l len 0) 3))
  have HNB := hid (show w.heap.size ≤ w4.heap.size from HS4.out)
  clear HS4
  have hsz : (w4.alloc (.cells (nArr l 0) 169)).heap.size = w4.heap.size + 1 := by simp
  rw [hsz] at HC5
  clear hsz HX4 HB4
  generalize (w4.alloc (.cells (nArr l 0) 169)).alloc (.cells (cArr l len 0) 3) = W5 at *
  generalize w4.heap.size = nb at *
  go_loopw [28] (fun i wr => ∃ k : Nat, k ≤ len ∧ i = .int .i64 k ∧ Has wr nb 169 (nArr l k) ∧ Has wr (nb + 1) 3 (cArr l len k) ∧ Bw w wr) (fun i _ => len - (intOf i).toNat)
  case atStart => exact ⟨0, Nat.zero_le _, rfl, HN5.out, HC5.out, HB5.out⟩
  case round =>
    clear HN5 HC5 HB5
    obtain ⟨k, hk, rfl, hn, hc, hbw⟩ := hrel
    have HN := hid hn
    have HC := hid hc
    have HB := hid hbw
    by_cases hlt : k < len
    · have hlti : (k : Int) < len := by omega
      have hkl : k < l.length := by rw [hll.out]; omega
      have hx := HALL.out l[k] (List.getElem_mem hkl)
      have hgd : l.getD k 0 = l[k] := by simp [List.getD, hkl]
      obtain ⟨b, off, rfl, hbl, q0⟩ := HST.out k hkl
      have hts : l.take (k + 1) = l.take k ++ [l[k]] := List.take_succ_eq_append_getElem hkl
      have HTS := hid hts
      generalize l[k] = x at *
      have x0 : wr.cell? ⟨b, off + k, none⟩ = some (.int .i64 x) := (World.cell?_of_block (hbw.block b hbl)).trans q0
      obtain ⟨hx1, hx2⟩ := hx
      have HGD := hid hgd
      clear hts hkl hn hc hbw q0 hgd
      have hor : x = 0 ∨ (0 < x ∧ x ≤ 15) := by omega
      rcases hor with rfl | ⟨hp0, hp15⟩
      · have HC0 := hid (cArr_same l len k (by unfold codeF; rw [HGD.out, if_pos rfl]))
        have HN0 := hid (nArr_same l k HTS.out)
        go_wp2
        go_roundw
        case rel => exact ⟨k + 1, by omega, by go_num, by rw [HN0.out]; exact HN.out, by rw [HC0.out]; exact HC.out, HB.out⟩
        case measure => simp [intOf]; omega
      · obtain ⟨m, rfl⟩ := Int.eq_ofNat_of_zero_le (Int.le_of_lt hp0)
        have hm0 : 0 < m := by omega
        have hm15 : m ≤ 15 := by omega
        have hcf : codeF l k = nxtC l k m := by unfold codeF; rw [HGD.out, if_neg (by omega), Int.toNat_natCast]
        have hb1 := fstC_le l h320 m (by omega)
        have hb2 := tal_le (l.take k) m
        have hb3 : (l.take k).length ≤ k := List.length_take_le _ _
        have hbd : nxtC l k m < 4611686018427387904 := by unfold nxtC; omega
        have cm : wr.cell? ⟨nb, m, none⟩ = some (.int .i64 (nxtC l k m : Nat)) := (HN.out.cell m).trans (nArr_get l k m (by omega))
        have cf := HC.out.frozen k
        have cc : wr.cell? ⟨nb + 1, k, none⟩ = some (.int .i64 0) := by
          rw [HC.out.cell k, cArr_get l len k k hlt, if_neg (by omega)]; rfl
        have HPC := hid (HC.out.put k (.int .i64 (nxtC l k m : Nat)))
        have HPN := hid (HN.out.far (p := ⟨nb + 1, k, none⟩) (show nb ≠ nb + 1 by omega) (.int .i64 (nxtC l k m : Nat)))
        have HPB := hid (Below.setCell HB.out (p := ⟨nb + 1, k, none⟩) (show w.heap.size ≤ nb + 1 by have := HNB.out; omega) (.int .i64 (nxtC l k m : Nat)))
        rw [← hcf, cArr_put l len k hlt, hcf] at HPC
        have hr9 : (m : Int) < 16 := by omega
        have d2 : decide (0 < (m : Int)) = true := decide_eq_true hp0
        clear hb1 hb2 hb3 hcf
        generalize hv : nxtC l k m = v at *
        have cm2 : (wr.setCell ⟨nb + 1, k, none⟩ (.int .i64 (v : Nat))).cell? ⟨nb, m, none⟩ = some (.int .i64 (v : Nat)) := (HPN.out.cell m).trans (by rw [nArr_get l k m (by omega), hv])
        have cfn := HPN.out.frozen m
        have HPN2 := hid (HPN.out.put m (.int .i64 (v + 1 : Nat)))
        have hnp := nArr_put l k m hm0 (by omega) HTS.out
        rw [hv] at hnp
        rw [hnp] at HPN2
        clear hv hnp
        go_wp2
        refine ⟨⟨k + 1, by omega, by go_num, by simpa using HPN2.out, ?_, ?_⟩, by simp [intOf]; omega⟩
        · exact HPC.out.far (p := ⟨nb, m, none⟩) (show nb + 1 ≠ nb by omega) _
        · exact Below.setCell HPB.out (p := ⟨nb, m, none⟩) HNB.out _
    · obtain rfl : k = len := by omega
      go_wp2
      go_returns
      exact ⟨nb + 1, rfl, by have := HNB.out; omega, HC.out, HB.out⟩
end Go.Proofs.YtkmbgkcpohchhaaGreatDoor
namespace Go.Proofs.YtkmbgkcpohchhaaGreatDoor
open Go.RowKit
set_option linter.unusedVariables false
def lenF (l : List Int) (i : Nat) : Nat := (l.getD i 0).toNat
structure IsCode (l : List Int) : Prop where
  few : l.length ≤ 320
  range : ∀ x ∈ l, 0 ≤ x ∧ x ≤ 15
  code : codeB l = true
theorem IsCode.of_check {l : List Int} (h : checkE l = 0) : IsCode l := by
  unfold checkE at h
  cases ho : okLens l with
  | false => rw [ho] at h; cases h
  | true =>
    rw [ho, if_pos rfl] at h
    have ho2 := ho
    unfold okLens at ho2
    obtain ⟨a, b⟩ := Bool.and_eq_true_iff.1 ho2
    cases hc : codeB l with
    | false => rw [hc] at h; cases h
    | true => exact ⟨of_decide_eq_true a, fun x hx => of_decide_eq_true (List.all_eq_true.1 b x hx), rfl.trans hc⟩
theorem IsCode.check {l : List Int} (h : IsCode l) : checkE l = 0 := by
  unfold checkE
  have : okLens l = true := by
    unfold okLens
    rw [decide_eq_true h.few, Bool.true_and, List.all_eq_true]
    intro x hx
    exact decide_eq_true (h.range x hx)
  rw [this, h.code]; rfl
theorem IsCode.len {l : List Int} (h : IsCode l) (i : Nat) : lenF l i ≤ 15 ∧ l.getD i 0 = (lenF l i : Nat) := by
  unfold lenF
  by_cases hi : i < l.length
  · have := h.range l[i] (List.getElem_mem hi)
    have e : l.getD i 0 = l[i] := by simp [List.getD, hi]
    rw [e]; omega
  · have e : l.getD i 0 = 0 := by simp [List.getD, List.getElem?_eq_none (Nat.le_of_not_lt hi)]
    rw [e]; simp
theorem lenF_lt {l : List Int} {i : Nat} (h : 0 < lenF l i) : i < l.length := by
  rcases Nat.lt_or_ge i l.length with hi | hi
  · exact hi
  · have e : l.getD i 0 = 0 := by simp [List.getD, List.getElem?_eq_none hi]
    unfold lenF at h; rw [e] at h; simp at h
theorem codeF_eq {l : List Int} (h : IsCode l) {i : Nat} (hi : 0 < lenF l i) : codeF l i = fstC l (lenF l i) + tal (l.take i) (lenF l i) := by
  obtain ⟨h1, h2⟩ := h.len i
  unfold codeF
  rw [if_neg (by rw [h2]; omega)]
  show nxtC l i (lenF l i) = _
  rfl
theorem tal_take_succ {l : List Int} (h : IsCode l) {i : Nat} (hi : 0 < lenF l i) : tal (l.take (i + 1)) (lenF l i) = tal (l.take i) (lenF l i) + 1 := by
  have hl := lenF_lt hi
  rw [List.take_succ_eq_append_getElem hl]
  have e : l[i] = ((lenF l i : Nat) : Int) := by rw [← (h.len i).2]; simp [List.getD, hl]
  rw [e, tal_snoc, if_pos ⟨rfl, hi⟩]
theorem tal_take_mono (l : List Int) (n : Nat) {i j : Nat} (h : i ≤ j) : tal (l.take i) n ≤ tal (l.take j) n := by
  unfold tal
  split
  · omega
  · exact List.Sublist.count_le _ (List.take_sublist_take_left h)
theorem tal_take_all (l : List Int) (n i : Nat) : tal (l.take i) n ≤ tal l n := by
  unfold tal
  split
  · omega
  · exact List.Sublist.count_le _ (List.take_sublist _ _)
theorem edge_eq (l : List Int) : ∀ n, n ≤ 15 → (fstC l n + tal l n) * 2 ^ (15 - n) = kraftS l (n + 1)
  | 0, _ => by simp [fstC, kraftS, tal]
  | n + 1, h => by
    have ih := edge_eq l n (by omega)
    show ((fstC l n + tal l n) * 2 + tal l (n + 1)) * 2 ^ (15 - (n + 1)) = kraftS l (n + 1) + tal l (n + 1) * 2 ^ (15 - (n + 1))
    rw [← ih, Nat.add_mul, Nat.mul_assoc, ← Nat.pow_succ', show (15 - (n + 1)).succ = 15 - n by omega]
theorem kraft_mono (l : List Int) {a b : Nat} (h : a ≤ b) : kraftS l a ≤ kraftS l b := by
  induction h with
  | refl => exact Nat.le_refl _
  | step h ih => exact Nat.le_trans ih (Nat.le_add_right _ _)
theorem fst_edge (l : List Int) (n : Nat) (h : n ≤ 14) : fstC l (n + 1) * 2 ^ (15 - (n + 1)) = kraftS l (n + 1) := by
  rw [← edge_eq l n (by omega)]
  show (fstC l n + tal l n) * 2 * _ = _
  rw [Nat.mul_assoc, ← Nat.pow_succ', show (15 - (n + 1)).succ = 15 - n by omega]
theorem kraft_top {l : List Int} (h : IsCode l) : kraftS l 16 ≤ 32768 := by
  have hc := h.code
  unfold codeB at hc
  rw [Bool.or_eq_true, Bool.or_eq_true] at hc
  rcases hc with hc | hc | hc
  · unfold zeroB at hc
    have e := of_decide_eq_true hc
    injection e with e0 e; injection e with e1 e; injection e with e2 e; injection e with e3 e; injection e with e4 e; injection e with e5 e; injection e with e6 e; injection e with e7 e; injection e with e8 e; injection e with e9 e; injection e with e10 e; injection e with e11 e; injection e with e12 e; injection e with e13 e; injection e with e14 e; injection e with e15 e
    simp only [kraftS]
    omega
  · unfold oneB at hc
    have e := of_decide_eq_true hc
    injection e with e0 e; injection e with e1 e; injection e with e2 e; injection e with e3 e; injection e with e4 e; injection e with e5 e; injection e with e6 e; injection e with e7 e; injection e with e8 e; injection e with e9 e; injection e with e10 e; injection e with e11 e; injection e with e12 e; injection e with e13 e; injection e with e14 e; injection e with e15 e
    simp only [kraftS]
    omega
  · exact Nat.le_of_eq (of_decide_eq_true hc)
theorem code_lo {l : List Int} (h : IsCode l) {i : Nat} (hi : 0 < lenF l i) : kraftS l (lenF l i) ≤ codeF l i * 2 ^ (15 - lenF l i) := by
  obtain ⟨n, hn⟩ : ∃ n, lenF l i = n + 1 := ⟨lenF l i - 1, by omega⟩
  have := (h.len i).1
  rw [codeF_eq h hi, hn, ← fst_edge l n (by omega)]
  exact Nat.mul_le_mul_right _ (Nat.le_add_right _ _)
theorem code_hi {l : List Int} (h : IsCode l) {i : Nat} (hi : 0 < lenF l i) : (codeF l i + 1) * 2 ^ (15 - lenF l i) ≤ kraftS l (lenF l i + 1) := by
  rw [← edge_eq l _ (h.len i).1, codeF_eq h hi]
  refine Nat.mul_le_mul_right _ ?_
  have h1 := tal_take_succ h hi
  have h2 := tal_take_all l (lenF l i) (i + 1)
  omega
theorem code_lt {l : List Int} (h : IsCode l) {i : Nat} (hi : 0 < lenF l i) : codeF l i < 2 ^ lenF l i := by
  have h1 := code_hi h hi
  have h2 := kraft_mono l (show lenF l i + 1 ≤ 16 by have := (h.len i).1; omega)
  have h3 := kraft_top h
  have h4 : (codeF l i + 1) * 2 ^ (15 - lenF l i) ≤ 2 ^ lenF l i * 2 ^ (15 - lenF l i) := by
    rw [← Nat.pow_add, show lenF l i + (15 - lenF l i) = 15 by have := (h.len i).1; omega]
    show _ ≤ 32768
    omega
  exact Nat.le_of_mul_le_mul_right h4 (Nat.two_pow_pos _)
theorem code_zero {l : List Int} (h : IsCode l) {i : Nat} (hi : lenF l i = 0) : codeF l i = 0 := by
  unfold codeF
  rw [if_pos]
  rw [(h.len i).2, hi]; rfl
theorem code_apart {l : List Int} (h : IsCode l) {i j : Nat} (hi : 0 < lenF l i) (hij : lenF l i ≤ lenF l j) (hc : codeF l j / 2 ^ (lenF l j - lenF l i) = codeF l i) : i = j := by
  have hj : 0 < lenF l j := by omega
  have h15 := (h.len j).1
  rcases Nat.eq_or_lt_of_le hij with he | hlt
  · rw [← he, Nat.sub_self, Nat.pow_zero, Nat.div_one] at hc
    rw [codeF_eq h hi, codeF_eq h hj, ← he] at hc
    rcases Nat.lt_trichotomy i j with a | a | a
    · have h1 := tal_take_succ h hi
      have h2 := tal_take_mono l (lenF l i) (show i + 1 ≤ j from a)
      omega
    · exact a
    · have h1 := tal_take_succ h hj
      rw [← he] at h1
      have h2 := tal_take_mono l (lenF l i) (show j + 1 ≤ i from a)
      omega
  · exfalso
    have h1 := code_hi h hi
    have h2 := code_lo h hj
    have h3 := kraft_mono l (show lenF l i + 1 ≤ lenF l j from hlt)
    have h4 : codeF l j < (codeF l i + 1) * 2 ^ (lenF l j - lenF l i) := by
      rw [← hc]
      have := Nat.div_add_mod (codeF l j) (2 ^ (lenF l j - lenF l i))
      have hm := Nat.mod_lt (codeF l j) (Nat.two_pow_pos (lenF l j - lenF l i))
      rw [Nat.add_mul, Nat.one_mul, Nat.mul_comm (_ / _)]
      omega
    have h5 : codeF l j * 2 ^ (15 - lenF l j) < (codeF l i + 1) * 2 ^ (lenF l j - lenF l i) * 2 ^ (15 - lenF l j) := Nat.mul_lt_mul_of_pos_right h4 (Nat.two_pow_pos _)
    rw [Nat.mul_assoc, ← Nat.pow_add, show lenF l j - lenF l i + (15 - lenF l j) = 15 - lenF l i by omega] at h5
    omega
end Go.Proofs.YtkmbgkcpohchhaaGreatDoor
namespace Go.Proofs.YtkmbgkcpohchhaaGreatDoor
open Go.RowKit
set_option linter.unusedVariables false
abbrev Path := Nat × Nat
def chl (P : List Path) (lf : Path → Option Nat) (p : Path) : Int :=
  match lf p with
  | some i => -((i : Int) + 1)
  | none => if p ∈ P then (P.idxOf p : Nat) else 0
def rowOf (P : List Path) (lf : Path → Option Nat) (p : Path) : List Value := [.int .i64 (chl P lf (p.1 + 1, 2 * p.2)), .int .i64 (chl P lf (p.1 + 1, 2 * p.2 + 1))]
def rowCells (P : List Path) (lf : Path → Option Nat) : List Value := P.flatMap (rowOf P lf)
structure TreeOk (P : List Path) (lf : Path → Option Nat) : Prop where
  nd : P.Nodup
  root : ∀ p, P[0]? = some p → p = (0, 0)
  up : ∀ L v, (L + 1, v) ∈ P → (L, v / 2) ∈ P
  lup : ∀ L v i, lf (L + 1, v) = some i → (L, v / 2) ∈ P
theorem chl_leaf {P : List Path} {lf : Path → Option Nat} {p : Path} {i : Nat} (h : lf p = some i) : chl P lf p = -((i : Int) + 1) := by unfold chl; rw [h]
theorem chl_row {P : List Path} {lf : Path → Option Nat} {p : Path} (h : lf p = none) (hp : p ∈ P) : chl P lf p = (P.idxOf p : Nat) := by unfold chl; rw [h]; exact if_pos hp
theorem chl_none {P : List Path} {lf : Path → Option Nat} {p : Path} (h : lf p = none) (hp : ¬ p ∈ P) : chl P lf p = 0 := by unfold chl; rw [h]; exact if_neg hp
theorem flat2_len {α : Type} (f : α → List Value) (hf : ∀ x, (f x).length = 2) : ∀ P : List α, (P.flatMap f).length = 2 * P.length
  | [] => rfl
  | x :: P => by
    rw [List.flatMap_cons, List.length_append, hf, flat2_len f hf P, List.length_cons]; omega
theorem flat2_get {α : Type} (f : α → List Value) (hf : ∀ x, (f x).length = 2) : ∀ (P : List α) (i b : Nat) (hi : i < P.length) (hb : b < 2), (P.flatMap f)[2 * i + b]? = (f P[i])[b]?
  | [], i, b, hi, _ => absurd hi (by simp)
  | x :: P, 0, b, _, hb => by
    rw [List.flatMap_cons, List.getElem?_append_left (by rw [hf]; omega)]
    simp
  | x :: P, i + 1, b, hi, hb => by
    rw [List.flatMap_cons, List.getElem?_append_right (by rw [hf]; omega), hf, show 2 * (i + 1) + b - 2 = 2 * i + b by omega]
    exact flat2_get f hf P i b (by simpa using hi) hb
theorem flat2_set {α : Type} (f g : α → List Value) (hf : ∀ x, (f x).length = 2) (hg : ∀ x, (g x).length = 2) (P : List α) (i b : Nat) (hi : i < P.length) (hb : b < 2) (v : Value)
    (h1 : ∀ j (hj : j < P.length), j ≠ i → f P[j] = g P[j]) (h2 : (f P[i]).set b v = g P[i]) : (P.flatMap f).set (2 * i + b) v = P.flatMap g := by
  apply List.ext_getElem?
  intro m
  rw [List.getElem?_set, flat2_len f hf]
  by_cases hm : m < 2 * P.length
  · have hj : m / 2 < P.length := by omega
    have e : m = 2 * (m / 2) + m % 2 := by omega
    have hc : m % 2 < 2 := Nat.mod_lt _ (by decide)
    generalize m / 2 = j at *
    generalize m % 2 = c at *
    subst e
    rw [flat2_get g hg P j c hj hc]
    by_cases hji : j = i
    · subst hji
      rw [← h2, List.getElem?_set, hf]
      by_cases hcb : b = c
      · subst hcb; rw [if_pos rfl, if_pos rfl, if_pos hm, if_pos hb]
      · rw [if_neg (by omega), if_neg hcb, flat2_get f hf P j c hj hc]
    · rw [if_neg (by omega), flat2_get f hf P j c hj hc, h1 j hj hji]
  · rw [if_neg (by omega), List.getElem?_eq_none (by rw [flat2_len f hf]; omega), List.getElem?_eq_none (by rw [flat2_len g hg]; omega)]
theorem rowOf_len (P : List Path) (lf : Path → Option Nat) (p : Path) : (rowOf P lf p).length = 2 := rfl
theorem rowCells_get (P : List Path) (lf : Path → Option Nat) (i b : Nat) (hi : i < P.length) (hb : b < 2) : (rowCells P lf)[2 * i + b]? = some (.int .i64 (chl P lf (P[i].1 + 1, 2 * P[i].2 + b))) := by
  unfold rowCells
  rw [flat2_get _ (rowOf_len P lf) P i b hi hb]
  have : b = 0 ∨ b = 1 := by omega
  rcases this with rfl | rfl <;> rfl
theorem rowCells_len (P : List Path) (lf : Path → Option Nat) : (rowCells P lf).length = 2 * P.length := flat2_len _ (rowOf_len P lf) P
theorem idx_at {P : List Path} {p : Path} (h : p ∈ P) : ∃ hi : P.idxOf p < P.length, P[P.idxOf p] = p := by
  have hi := List.idxOf_lt_length_of_mem h
  exact ⟨hi, List.getElem_idxOf hi⟩
theorem idx_pos {P : List Path} {lf : Path → Option Nat} (h : TreeOk P lf) {p : Path} (hp : p ∈ P) (h0 : 0 < p.1) : 0 < P.idxOf p := by
  obtain ⟨hi, e⟩ := idx_at hp
  rcases Nat.eq_zero_or_pos (P.idxOf p) with h1 | h1
  · have h2 : P[0]? = some p := by
      rw [← e]
      simp only [h1]
      rw [List.getElem?_eq_getElem]
    have := h.root p h2
    rw [this] at h0; simp at h0
  · exact h1
theorem tree_grow {P : List Path} {lf : Path → Option Nat} (h : TreeOk P lf) (L v : Nat) (b : Nat) (hb : b < 2) (hp : (L, v) ∈ P) (hq : ¬ (L + 1, 2 * v + b) ∈ P) (hl : lf (L + 1, 2 * v + b) = none) :
    (rowCells P lf).set (2 * P.idxOf (L, v) + b) (.int .i64 (P.length : Nat)) ++ [.int .i64 0, .int .i64 0] = rowCells (P ++ [(L + 1, 2 * v + b)]) lf := by
  obtain ⟨hi, e⟩ := idx_at hp
  have hne : ∀ p, p ≠ (L + 1, 2 * v + b) → chl (P ++ [(L + 1, 2 * v + b)]) lf p = chl P lf p := fun p hpq => by
    unfold chl
    cases lf p with
    | some i => rfl
    | none =>
      by_cases hm : p ∈ P
      · rw [if_pos hm, if_pos (by simp [hm]), List.idxOf_append, if_pos hm]
      · rw [if_neg hm, if_neg (by simp [hm, hpq])]
  have hnew : chl (P ++ [(L + 1, 2 * v + b)]) lf (L + 1, 2 * v + b) = (P.length : Nat) := by
    rw [chl_row hl (by simp), List.idxOf_append, if_neg hq]
    simp
  have hdown : ∀ c, c < 2 → chl (P ++ [(L + 1, 2 * v + b)]) lf (L + 1 + 1, 2 * (2 * v + b) + c) = 0 := fun c hc => by
    have e2 : (2 * (2 * v + b) + c) / 2 = 2 * v + b := by omega
    refine (hne _ (by simp)).trans (chl_none ?_ ?_)
    · cases hx : lf (L + 1 + 1, 2 * (2 * v + b) + c) with
      | none => rfl
      | some i =>
        have := h.lup _ _ _ hx
        rw [e2] at this
        exact absurd this hq
    · intro hx
      have := h.up _ _ hx
      rw [e2] at this
      exact hq this
  unfold rowCells
  rw [List.flatMap_append]
  congr 1
  · refine flat2_set _ _ (rowOf_len P lf) (rowOf_len _ lf) P _ b hi hb _ (fun j hj hji => ?_) ?_
    · have hpj : P[j] ≠ (L, v) := fun hx => hji (by
        have := h.nd.idxOf_getElem j hj
        rw [hx] at this
        exact this.symm)
      unfold rowOf
      rw [hne, hne]
      · intro hx
        have h1 : P[j].1 + 1 = L + 1 := congrArg Prod.fst hx
        have h2 : 2 * P[j].2 + 1 = 2 * v + b := congrArg Prod.snd hx
        exact hpj (Prod.ext (by omega) (by simp only; omega))
      · intro hx
        have h1 : P[j].1 + 1 = L + 1 := congrArg Prod.fst hx
        have h2 : 2 * P[j].2 = 2 * v + b := congrArg Prod.snd hx
        exact hpj (Prod.ext (by omega) (by simp only; omega))
    · rw [e]
      have : b = 0 ∨ b = 1 := by omega
      rcases this with rfl | rfl
      · unfold rowOf
        rw [hne (L + 1, 2 * v + 1) (fun hx => by have := congrArg Prod.snd hx; simp at this)]
        have := hnew
        simp only [Nat.add_zero] at this
        simp only [List.set_cons_zero, Nat.add_zero]
        rw [this]
      · unfold rowOf
        rw [hne (L + 1, 2 * v) (fun hx => by have := congrArg Prod.snd hx; simp at this)]
        simp only [List.set_cons_succ, List.set_cons_zero]
        rw [hnew]
  · have d0 := hdown 0 (by omega)
    have d1 := hdown 1 (by omega)
    simp only [Nat.add_zero] at d0
    simp only [List.flatMap_cons, List.flatMap_nil, List.append_nil]
    unfold rowOf
    simp only
    rw [d0, d1]
theorem tree_grow_ok {P : List Path} {lf : Path → Option Nat} (h : TreeOk P lf) (L v : Nat) (b : Nat) (hb : b < 2) (hp : (L, v) ∈ P) (hq : ¬ (L + 1, 2 * v + b) ∈ P) : TreeOk (P ++ [(L + 1, 2 * v + b)]) lf := by
  refine ⟨?_, ?_, ?_, ?_⟩
  · rw [List.nodup_append]
    refine ⟨h.nd, by simp, fun a ha c hc => ?_⟩
    simp only [List.mem_singleton] at hc
    subst hc
    exact fun hx => hq (hx ▸ ha)
  · intro p hx
    have hlen : 0 < P.length := List.length_pos_of_mem hp
    rw [List.getElem?_append_left hlen] at hx
    exact h.root p hx
  · intro M u hx
    rw [List.mem_append] at hx ⊢
    rcases hx with hx | hx
    · exact .inl (h.up _ _ hx)
    · left
      simp only [List.mem_singleton, Prod.mk.injEq] at hx
      obtain ⟨h1, h2⟩ := hx
      rw [h2, show (2 * v + b) / 2 = v by omega, show M = L by omega]
      exact hp
  · intro M u i hx
    exact List.mem_append_left _ (h.lup _ _ _ hx)
def lfPut (lf : Path → Option Nat) (q : Path) (i : Nat) : Path → Option Nat := fun p => if p = q then some i else lf p
theorem tree_leaf {P : List Path} {lf : Path → Option Nat} (h : TreeOk P lf) (L v : Nat) (b : Nat) (hb : b < 2) (hp : (L, v) ∈ P) (i : Nat) :
    (rowCells P lf).set (2 * P.idxOf (L, v) + b) (.int .i64 (-((i : Int) + 1))) = rowCells P (lfPut lf (L + 1, 2 * v + b) i) := by
  obtain ⟨hi, e⟩ := idx_at hp
  have hne : ∀ p, p ≠ (L + 1, 2 * v + b) → chl P (lfPut lf (L + 1, 2 * v + b) i) p = chl P lf p := fun p hpq => by
    unfold chl lfPut
    rw [if_neg hpq]
  have hnew : chl P (lfPut lf (L + 1, 2 * v + b) i) (L + 1, 2 * v + b) = -((i : Int) + 1) := chl_leaf (by unfold lfPut; rw [if_pos rfl])
  unfold rowCells
  refine flat2_set _ _ (rowOf_len P lf) (rowOf_len _ _) P _ b hi hb _ (fun j hj hji => ?_) ?_
  · have hpj : P[j] ≠ (L, v) := fun hx => hji (by
      have := h.nd.idxOf_getElem j hj
      rw [hx] at this
      exact this.symm)
    unfold rowOf
    rw [hne, hne]
    · intro hx
      have h1 : P[j].1 + 1 = L + 1 := congrArg Prod.fst hx
      have h2 : 2 * P[j].2 + 1 = 2 * v + b := congrArg Prod.snd hx
      exact hpj (Prod.ext (by omega) (by simp only; omega))
    · intro hx
      have h1 : P[j].1 + 1 = L + 1 := congrArg Prod.fst hx
      have h2 : 2 * P[j].2 = 2 * v + b := congrArg Prod.snd hx
      exact hpj (Prod.ext (by omega) (by simp only; omega))
  · rw [e]
    have : b = 0 ∨ b = 1 := by omega
    rcases this with rfl | rfl
    · unfold rowOf
      rw [hne (L + 1, 2 * v + 1) (fun hx => by have := congrArg Prod.snd hx; simp at this)]
      have := hnew
      simp only [Nat.add_zero] at this
      simp only [List.set_cons_zero, Nat.add_zero]
      rw [this]
    · unfold rowOf
      rw [hne (L + 1, 2 * v) (fun hx => by have := congrArg Prod.snd hx; simp at this)]
      simp only [List.set_cons_succ, List.set_cons_zero]
      rw [hnew]
theorem tree_leaf_ok {P : List Path} {lf : Path → Option Nat} (h : TreeOk P lf) (L v : Nat) (hp : (L, v / 2) ∈ P) (i : Nat) : TreeOk P (lfPut lf (L + 1, v) i) := by
  refine ⟨h.nd, h.root, h.up, fun M u j hx => ?_⟩
  unfold lfPut at hx
  split at hx
  · rename_i hq
    have h1 : M + 1 = L + 1 := congrArg Prod.fst hq
    have h2 : u = v := congrArg Prod.snd hq
    rw [h2, show M = L by omega]
    exact hp
  · exact h.lup _ _ _ hx
end Go.Proofs.YtkmbgkcpohchhaaGreatDoor
namespace Go.Proofs.YtkmbgkcpohchhaaGreatDoor
def leN : List UInt8 → Nat
  | [] => 0
  | b :: l => b.toNat + 256 * leN l
theorem leN_lt (l : List UInt8) : leN l < 2 ^ (8 * l.length) := by
  induction l with
  | nil => simp [leN]
  | cons b l ih =>
    have hb : b.toNat < 256 := b.toNat_lt
    have e : 2 ^ (8 * (b :: l).length) = 256 * 2 ^ (8 * l.length) := by
      rw [List.length_cons, show 8 * (l.length + 1) = 8 + 8 * l.length by omega, Nat.pow_add]
    rw [e, leN]; omega
theorem leN_append (a b : List UInt8) : leN (a ++ b) = leN a + 2 ^ (8 * a.length) * leN b := by
  induction a with
  | nil => simp [leN]
  | cons x a ih =>
    rw [List.cons_append, leN, ih, leN, List.length_cons, show 8 * (a.length + 1) = 8 + 8 * a.length by omega, Nat.pow_add, Nat.mul_add, Nat.add_assoc, Nat.mul_assoc]
theorem leN_byte (l : List UInt8) (i : Nat) (h : i < l.length) : leN l / 2 ^ (8 * i) % 256 = l[i].toNat := by
  induction l generalizing i with
  | nil => simp at h
  | cons x l ih =>
    have hb : x.toNat < 256 := x.toNat_lt
    cases i with
    | zero => simp [leN]
    | succ i =>
      rw [show 8 * (i + 1) = 8 + 8 * i by omega, Nat.pow_add, ← Nat.div_div_eq_div_mul]
      have e : leN (x :: l) / 2 ^ 8 = leN l := by rw [leN]; omega
      rw [e]; exact ih i (by simpa using h)
theorem mdm (Y M r n : Nat) (h : r + n ≤ M) : Y % 2 ^ M / 2 ^ r % 2 ^ n = Y / 2 ^ r % 2 ^ n := by
  apply Nat.eq_of_testBit_eq
  intro i
  simp only [Nat.testBit_mod_two_pow, Nat.testBit_div_two_pow]
  by_cases hi : i < n
  · simp [hi, show i + r < M by omega]
  · simp [hi]
theorem mod_split (Y a b : Nat) : Y % 2 ^ (a + b) = Y % 2 ^ a + 2 ^ a * (Y / 2 ^ a % 2 ^ b) := by
  rw [Nat.pow_add, Nat.mod_mul]
def bv (s : ByteArray) (k n : Nat) : Nat := leN s.data.toList / 2 ^ k % 2 ^ n
theorem bv_lt (s : ByteArray) (k n : Nat) : bv s k n < 2 ^ n := Nat.mod_lt _ (Nat.two_pow_pos n)
theorem bv_zero (s : ByteArray) (k : Nat) : bv s k 0 = 0 := by simp [bv, Nat.mod_one]
theorem bv_add (s : ByteArray) (k a b : Nat) : bv s k (a + b) = bv s k a + 2 ^ a * bv s (k + a) b := by
  unfold bv
  rw [mod_split, Nat.div_div_eq_div_mul, ← Nat.pow_add]
theorem bv_byte (s : ByteArray) (i : Nat) (h : i < s.size) : bv s (8 * i) 8 = s[i].toNat := leN_byte s.data.toList i (by simpa using h)
theorem bv_part (s : ByteArray) (k M r n : Nat) (h : r + n ≤ M) : bv s k M / 2 ^ r % 2 ^ n = bv s (k + r) n := by
  unfold bv
  rw [mdm _ _ _ _ h, Nat.div_div_eq_div_mul, ← Nat.pow_add]
theorem bv_bit (s : ByteArray) (k : Nat) (h : k / 8 < s.size) : s[k / 8].toNat / 2 ^ (k % 8) % 2 = bv s k 1 := by
  rw [← bv_byte s (k / 8) h]
  have := bv_part s (8 * (k / 8)) 8 (k % 8) 1 (by omega)
  rw [show 8 * (k / 8) + k % 8 = k by omega] at this
  exact this
theorem bv_lt32 (s : ByteArray) (k n : Nat) (h : n ≤ 32) : bv s k n < 4294967296 := Nat.lt_of_lt_of_le (bv_lt s k n) (Nat.le_trans (Nat.pow_le_pow_right (by decide) h) (by decide))
theorem bv_lt40 (s : ByteArray) (k n : Nat) (h : n ≤ 40) : bv s k n < 1099511627776 := Nat.lt_of_lt_of_le (bv_lt s k n) (Nat.le_trans (Nat.pow_le_pow_right (by decide) h) (by decide))
theorem bv_or (s : ByteArray) (q i : Nat) (h : q + i < s.size) : bv s (8 * q) (8 * i) ||| s[q + i].toNat * 2 ^ (8 * i) = bv s (8 * q) (8 * (i + 1)) := by
  rw [Nat.or_comm, nat_join (8 * i) _ _ (Nat.mul_mod_left _ _) (bv_lt _ _ _), Nat.mul_add, bv_add, ← bv_byte s (q + i) h, Nat.mul_add]
  simp only [Nat.mul_one]
  rw [Nat.mul_comm, Nat.add_comm]
theorem and_mask (x n : Nat) : x &&& (2 ^ n - 1) = x % 2 ^ n := Nat.and_two_pow_sub_one_eq_mod x n
end Go.Proofs.YtkmbgkcpohchhaaGreatDoor
namespace Go.Proofs.YtkmbgkcpohchhaaGreatDoor
open Go.RowKit
set_option linter.unusedVariables false
def lfK (l : List Int) (k : Nat) (p : Path) : Option Nat := (List.range k).find? fun i => decide (0 < p.1 ∧ lenF l i = p.1 ∧ codeF l i = p.2)
def NdP (l : List Int) (k : Nat) (p : Path) : Prop := ∃ i, i < k ∧ p.1 < lenF l i ∧ codeF l i / 2 ^ (lenF l i - p.1) = p.2
def ndB (l : List Int) (p : Path) : Bool := (List.range l.length).any fun i => decide (p.1 < lenF l i ∧ codeF l i / 2 ^ (lenF l i - p.1) = p.2)
theorem ndB_iff (l : List Int) (p : Path) : ndB l p = true ↔ NdP l l.length p := by
  unfold ndB NdP
  rw [List.any_eq_true]
  constructor
  · rintro ⟨i, hi, h⟩
    exact ⟨i, List.mem_range.1 hi, of_decide_eq_true h⟩
  · rintro ⟨i, hi, h⟩
    exact ⟨i, List.mem_range.2 hi, decide_eq_true h⟩
theorem lfK_some {l : List Int} {k : Nat} {p : Path} {i : Nat} (h : lfK l k p = some i) : i < k ∧ 0 < p.1 ∧ lenF l i = p.1 ∧ codeF l i = p.2 := by
  unfold lfK at h
  have h1 := List.mem_of_find?_eq_some h
  have h2 := List.find?_some h
  exact ⟨List.mem_range.1 h1, of_decide_eq_true h2⟩
theorem lfK_none {l : List Int} {k : Nat} {p : Path} (h : lfK l k p = none) {i : Nat} (hi : i < k) : ¬ (0 < p.1 ∧ lenF l i = p.1 ∧ codeF l i = p.2) := by
  unfold lfK at h
  rw [List.find?_eq_none] at h
  have := h i (List.mem_range.2 hi)
  simpa using this
theorem lfK_isnone {l : List Int} {k : Nat} {p : Path} (h : ∀ i, i < k → ¬ (0 < p.1 ∧ lenF l i = p.1 ∧ codeF l i = p.2)) : lfK l k p = none := by
  unfold lfK
  rw [List.find?_eq_none]
  intro i hi
  have := h i (List.mem_range.1 hi)
  simpa using this
theorem lfK_zero (l : List Int) : lfK l 0 = fun _ => none := rfl
theorem lfK_skip {l : List Int} {k : Nat} (h : lenF l k = 0) : lfK l (k + 1) = lfK l k := by
  funext p
  unfold lfK
  rw [List.range_succ, List.find?_append]
  have : ([k] : List Nat).find? (fun i => decide (0 < p.1 ∧ lenF l i = p.1 ∧ codeF l i = p.2)) = none := by
    rw [List.find?_eq_none]
    intro i hi
    simp only [List.mem_singleton] at hi
    subst hi
    simp only [decide_eq_true_eq]
    omega
  rw [this, Option.or_none]
theorem lfK_put {l : List Int} (h : IsCode l) {k : Nat} (hk : 0 < lenF l k) : lfK l (k + 1) = lfPut (lfK l k) (lenF l k, codeF l k) k := by
  funext p
  unfold lfPut
  by_cases hp : p = (lenF l k, codeF l k)
  · rw [if_pos hp]
    subst hp
    have h0 : lfK l k (lenF l k, codeF l k) = none := lfK_isnone fun i hi hx => by
      have hj := code_apart h (i := i) (j := k) (by rw [hx.2.1]; exact hk) (by rw [hx.2.1]; exact Nat.le_refl _) (by rw [hx.2.1]; simp [hx.2.2])
      omega
    unfold lfK at h0 ⊢
    rw [List.range_succ, List.find?_append, h0]
    simp [hk]
  · rw [if_neg hp]
    unfold lfK
    rw [List.range_succ, List.find?_append]
    have : ([k] : List Nat).find? (fun i => decide (0 < p.1 ∧ lenF l i = p.1 ∧ codeF l i = p.2)) = none := by
      rw [List.find?_eq_none]
      intro i hi
      simp only [List.mem_singleton] at hi
      subst hi
      simp only [decide_eq_true_eq]
      intro hx
      exact hp (Prod.ext hx.2.1.symm hx.2.2.symm)
    rw [this, Option.or_none]
theorem lfK_way {l : List Int} (h : IsCode l) {k M : Nat} (h0 : 0 < M) (hM : M < lenF l k) : lfK l k (M, codeF l k / 2 ^ (lenF l k - M)) = none := by
  refine lfK_isnone fun i hi hx => ?_
  have hj := code_apart h (i := i) (j := k) (by rw [hx.2.1]; exact h0) (by rw [hx.2.1]; exact Nat.le_of_lt hM) (by rw [hx.2.1]; exact hx.2.2.symm)
  omega
theorem nd_apart {l : List Int} (h : IsCode l) {p : Path} (hp : ndB l p = true) : lfK l l.length p = none := by
  obtain ⟨i, hi, h1, h2⟩ := (ndB_iff l p).1 hp
  refine lfK_isnone fun j hj hx => ?_
  have e := code_apart h (i := j) (j := i) (by omega) (by omega) (by rw [hx.2.1, h2]; exact hx.2.2.symm)
  subst e; omega
structure TreeK (l : List Int) (k : Nat) (P : List Path) : Prop where
  ok : TreeOk P (lfK l k)
  mem : ∀ p, p ∈ P ↔ NdP l k p
theorem treeK_zero (l : List Int) : TreeK l 0 [] := by
  refine ⟨⟨List.nodup_nil, fun p h => by simp at h, fun L v h => by simp at h, fun L v i h => by rw [lfK_zero] at h; cases h⟩, fun p => ?_⟩
  constructor
  · intro h; simp at h
  · rintro ⟨i, hi, _⟩; omega
theorem treeK_skip {l : List Int} {k : Nat} {P : List Path} (h : TreeK l k P) (h0 : lenF l k = 0) : TreeK l (k + 1) P := by
  refine ⟨by rw [lfK_skip h0]; exact h.ok, fun p => (h.mem p).trans ?_⟩
  constructor
  · rintro ⟨i, hi, hx⟩; exact ⟨i, by omega, hx⟩
  · rintro ⟨i, hi, h1, h2⟩
    refine ⟨i, ?_, h1, h2⟩
    by_cases e : i = k
    · subst e; omega
    · omega
def dGo (l : List Int) (s : ByteArray) : Nat → Path → Nat → Nat × Int × Nat
  | 0, _, k => (0, 3, k)
  | f + 1, p, k =>
    match lfK l l.length p with
    | some i => (i, 0, k)
    | none => if ndB l p then (if 8 * s.size ≤ k then (0, 2, k) else dGo l s f (p.1 + 1, 2 * p.2 + bv s k 1) (k + 1)) else (0, 3, k)
theorem dGo_leaf {l : List Int} {p : Path} {i : Nat} (h : lfK l l.length p = some i) (s : ByteArray) (f k : Nat) : dGo l s (f + 1) p k = (i, 0, k) := by rw [dGo, h]
theorem dGo_off {l : List Int} {p : Path} (h : lfK l l.length p = none) (hn : ndB l p = false) (s : ByteArray) (f k : Nat) : dGo l s (f + 1) p k = (0, 3, k) := by rw [dGo, h]; simp [hn]
theorem dGo_cut {l : List Int} {p : Path} (h : lfK l l.length p = none) (hn : ndB l p = true) (s : ByteArray) (f k : Nat) (hk : 8 * s.size ≤ k) : dGo l s (f + 1) p k = (0, 2, k) := by rw [dGo, h]; simp [hn, hk]
theorem dGo_on {l : List Int} {p : Path} (h : lfK l l.length p = none) (hn : ndB l p = true) (s : ByteArray) (f k : Nat) (hk : ¬ 8 * s.size ≤ k) : dGo l s (f + 1) p k = dGo l s f (p.1 + 1, 2 * p.2 + bv s k 1) (k + 1) := by rw [dGo, h]; simp [hn, hk]
def nextR (l : List Int) (s : ByteArray) (k : Nat) : Nat × Int × Nat := dGo l s 16 (0, 0) k
def nextV (l : List Int) (s : ByteArray) (k : Nat) : Nat := (nextR l s k).1
def nextE (l : List Int) (s : ByteArray) (k : Nat) : Int := (nextR l s k).2.1
def nextK (l : List Int) (s : ByteArray) (k : Nat) : Nat := if nextE l s k = 0 then (nextR l s k).2.2 else k
theorem lfK_top (l : List Int) (k v : Nat) : lfK l k (0, v) = none := lfK_isnone fun i _ h => by have := h.1; simp at this
theorem nd_short {l : List Int} (h : IsCode l) {p : Path} (hp : ndB l p = true) : p.1 < 15 := by
  obtain ⟨i, hi, h1, h2⟩ := (ndB_iff l p).1 hp
  have := (h.len i).1
  omega
theorem dGo_le (l : List Int) (s : ByteArray) : ∀ (f : Nat) (p : Path) (k : Nat), k ≤ 8 * s.size → k ≤ (dGo l s f p k).2.2 ∧ (dGo l s f p k).2.2 ≤ 8 * s.size ∧ (dGo l s f p k).2.2 ≤ k + f
  | 0, p, k, h => ⟨Nat.le_refl _, h, Nat.le_refl _⟩
  | f + 1, p, k, h => by
    rw [dGo]
    split
    · exact ⟨Nat.le_refl _, h, by simp⟩
    · split
      · split
        · exact ⟨Nat.le_refl _, h, by simp⟩
        · have := dGo_le l s f (p.1 + 1, 2 * p.2 + bv s k 1) (k + 1) (by omega)
          omega
      · exact ⟨Nat.le_refl _, h, by simp⟩
theorem nextK_le (l : List Int) (s : ByteArray) (k : Nat) (h : k ≤ 8 * s.size) : nextK l s k ≤ 8 * s.size := by
  unfold nextK nextR
  split
  · exact (dGo_le l s 16 (0, 0) k h).2.1
  · exact h
theorem dGo_sym (l : List Int) (s : ByteArray) : ∀ (f : Nat) (p : Path) (k : Nat), (dGo l s f p k).1 ≤ l.length ∧ ((dGo l s f p k).2.1 = 0 → (dGo l s f p k).1 < l.length ∧ 0 < lenF l (dGo l s f p k).1) ∧ ((dGo l s f p k).2.1 = 0 ∨ (dGo l s f p k).2.1 = 2 ∨ (dGo l s f p k).2.1 = 3) ∧ ((dGo l s f p k).2.1 ≠ 0 → (dGo l s f p k).1 = 0)
  | 0, p, k => ⟨Nat.zero_le _, (fun h => by simp [dGo] at h), .inr (.inr rfl), fun _ => rfl⟩
  | f + 1, p, k => by
    rw [dGo]
    split
    · rename_i i hi
      have := lfK_some hi
      refine ⟨by simp only; omega, fun _ => ⟨this.1, by simp only; omega⟩, .inl rfl, fun h => absurd rfl h⟩
    · split
      · split
        · exact ⟨Nat.zero_le _, (fun h => by simp at h), .inr (.inl rfl), fun _ => rfl⟩
        · exact dGo_sym l s f _ _
      · exact ⟨Nat.zero_le _, (fun h => by simp at h), .inr (.inr rfl), fun _ => rfl⟩
end Go.Proofs.YtkmbgkcpohchhaaGreatDoor
namespace Go.Proofs.YtkmbgkcpohchhaaGreatDoor
open Go.RowKit
set_option linter.unusedVariables false
theorem ret_int {a b : Int} (h : a = b) : Ending.returned (.int .i64 a) = .returned (.int .i64 b) := by rw [h]
set_option maxHeartbeats 400000 in
theorem whole_any (g k : Nat) (hk : k ≤ 1152921504606846976) (w : World) (hc : w.cell? ⟨g, 0, none⟩ = some (.int .i64 k)) :
    Calls Tryz.prog 96 #[.pointer (some ⟨g, 0, none⟩)] w fun e w' => e = .returned (.int .i64 ((k / 8 : Nat) : Int)) ∧ w = w' := by
  go_enter Tryz.func96, Tryz.ntmps96
  go_wp2
  go_ret
  exact ⟨ret_int (by omega), rfl⟩
set_option maxHeartbeats 400000 in
theorem begun_any (g k : Nat) (hk : k ≤ 1152921504606846976) (w : World) (hc : w.cell? ⟨g, 0, none⟩ = some (.int .i64 k)) :
    Calls Tryz.prog 65 #[.pointer (some ⟨g, 0, none⟩)] w fun e w' => e = .returned (.int .i64 ((k % 8 : Nat) : Int)) ∧ w = w' := by
  go_enter Tryz.func65, Tryz.ntmps65
  go_wp2
  go_ret
  exact ⟨ret_int (by omega), rfl⟩
set_option maxHeartbeats 400000 in
theorem advance_any (g k n : Nat) (hk : k + n ≤ 1152921504606846976) (w : World) (hc : w.cell? ⟨g, 0, none⟩ = some (.int .i64 k)) (hf : w.frozen? ⟨g, 0, none⟩ = false) :
    Calls Tryz.prog 95 #[.pointer (some ⟨g, 0, none⟩), .int .i64 n] w fun e w' => e = .returned (.tuple #[]) ∧ w.setCell ⟨g, 0, none⟩ (.int .i64 ((k + n : Nat) : Int)) = w' := by
  go_enter Tryz.func95, Tryz.ntmps95
  go_wp2
  go_returns
  exact ⟨rfl, by simp⟩
def cntB (n : Int) : Bool := decide (0 ≤ n ∧ n ≤ 32)
theorem cntB_true {n : Int} (h : cntB n = true) : 0 ≤ n ∧ n ≤ 32 := of_decide_eq_true h
theorem cntB_false {n : Int} (h : cntB n = false) : n < 0 ∨ 32 < n := by
  have := of_decide_eq_false h; omega
theorem ret_bool' {a b : Bool} (h : a = b) : Ending.returned (.bool a) = .returned (.bool b) := by rw [h]
theorem isCount_any (n : Int) (w : World) :
    Calls Tryz.prog 94 #[.int .i64 n] w fun e w' => e = .returned (.bool (cntB n)) ∧ w = w' := by
  by_cases h0 : 0 ≤ n
  · by_cases h1 : n ≤ 32
    · go_enter Tryz.func94, Tryz.ntmps94
      go_wp2
      go_ret
      exact ⟨ret_bool' (by unfold cntB; simp; omega), rfl⟩
    · go_enter Tryz.func94, Tryz.ntmps94
      go_wp2
      go_ret
      exact ⟨ret_bool' (by unfold cntB; simp; omega), rfl⟩
  · go_enter Tryz.func94, Tryz.ntmps94
    go_wp2
    go_ret
    exact ⟨ret_bool' (by unfold cntB; simp; omega), rfl⟩
end Go.Proofs.YtkmbgkcpohchhaaGreatDoor
namespace Go.Proofs.YtkmbgkcpohchhaaGreatDoor
open Go.RowKit
set_option linter.unusedVariables false
def hiN (N d : Nat) : Nat := N / 2 ^ (8 * d)
def byteCells (N d : Nat) : List Value := (List.range d).map fun j => Value.int .u8 ((hiN N j % 256 : Nat) : Int)
theorem byteCells_succ (N d : Nat) : byteCells N (d + 1) = byteCells N d ++ [Value.int .u8 ((hiN N d % 256 : Nat) : Int)] := by
  simp [byteCells, List.range_succ]
theorem byte_cong {N M d j : Nat} (h : N % 2 ^ (8 * d) = M % 2 ^ (8 * d)) (hj : j < d) : hiN N j % 256 = hiN M j % 256 := by
  unfold hiN
  have e1 := mdm N (8 * d) (8 * j) 8 (by omega)
  have e2 := mdm M (8 * d) (8 * j) 8 (by omega)
  rw [h] at e1
  exact e1.symm.trans e2
theorem byteCells_cong {N M d : Nat} (h : N % 2 ^ (8 * d) = M % 2 ^ (8 * d)) : byteCells N d = byteCells M d := by
  unfold byteCells
  apply List.map_congr_left
  intro j hj
  rw [byte_cong h (List.mem_range.1 hj)]
theorem lay_cong (N v k d : Nat) (h : 8 * d ≤ k) : (N + v * 2 ^ k) % 2 ^ (8 * d) = N % 2 ^ (8 * d) := by
  have e : v * 2 ^ k = 2 ^ (8 * d) * (2 ^ (k - 8 * d) * v) := by
    rw [← Nat.mul_assoc, ← Nat.pow_add, show 8 * d + (k - 8 * d) = k by omega, Nat.mul_comm]
  rw [e, Nat.add_mul_mod_self_left]
theorem lay_lt {N v k n : Nat} (h : N < 2 ^ k) (hv : v < 2 ^ n) : N + v * 2 ^ k < 2 ^ (k + n) := by
  have : (v + 1) * 2 ^ k ≤ 2 ^ n * 2 ^ k := Nat.mul_le_mul_right _ hv
  rw [Nat.add_mul, Nat.one_mul] at this
  rw [Nat.pow_add, Nat.mul_comm (2 ^ k)]
  omega
theorem lay_open (N v k : Nat) : (N + v * 2 ^ k) / 2 ^ (8 * (k / 8)) = N / 2 ^ (8 * (k / 8)) + v * 2 ^ (k % 8) := by
  have e : v * 2 ^ k = (v * 2 ^ (k % 8)) * 2 ^ (8 * (k / 8)) := by
    rw [Nat.mul_assoc, ← Nat.pow_add, show k % 8 + 8 * (k / 8) = k by omega]
  rw [e, Nat.add_mul_div_right _ _ (Nat.two_pow_pos _)]
theorem div_lt_pow {N a b : Nat} (h : N < 2 ^ (a + b)) : N / 2 ^ a < 2 ^ b := by
  rw [Nat.div_lt_iff_lt_mul (Nat.two_pow_pos a), Nat.mul_comm, ← Nat.pow_add]; exact h
theorem open_lt {N k : Nat} (h : N < 2 ^ k) : N / 2 ^ (8 * (k / 8)) < 2 ^ (k % 8) := div_lt_pow (by rw [show 8 * (k / 8) + k % 8 = k by omega]; exact h)
theorem pow_le_128 {r : Nat} (h : r < 8) : 2 ^ r ≤ 128 := Nat.le_trans (Nat.pow_le_pow_right (by decide) (show r ≤ 7 by omega)) (by decide)
theorem last_lt {N k : Nat} (h : N < 2 ^ k) : hiN N (k / 8) < 128 := Nat.lt_of_lt_of_le (open_lt h) (pow_le_128 (Nat.mod_lt _ (by decide)))
theorem or_open (N v k : Nat) (h : N < 2 ^ k) : N / 2 ^ (8 * (k / 8)) ||| v * 2 ^ (k % 8) = (N + v * 2 ^ k) / 2 ^ (8 * (k / 8)) := by
  rw [lay_open, Nat.or_comm, nat_join (k % 8) _ _ (Nat.mul_mod_left _ _) (open_lt h), Nat.add_comm]
theorem or64w (N v k : Nat) (h : N < 2 ^ k) (hv : v < 4294967296) :
    bits BinOp.or IntKind.u64 ((hiN N (k / 8) : Nat) : Int) (IntKind.u64.wrap ((v : Int) * 2 ^ (k % 8))) = ((hiN (N + v * 2 ^ k) (k / 8) : Nat) : Int) := by
  have hll := last_lt h
  unfold hiN at hll ⊢
  have hp := pow_le_128 (Nat.mod_lt k (show 0 < 8 by decide))
  have h1 : v * 2 ^ (k % 8) ≤ 4294967296 * 128 := Nat.mul_le_mul (by omega) hp
  have e1 : IntKind.u64.wrap ((v : Int) * 2 ^ (k % 8)) = ((v * 2 ^ (k % 8) : Nat) : Int) := by
    rw [IntKind.wrap_u64]
    have : ((v : Int) * 2 ^ (k % 8)) = ((v * 2 ^ (k % 8) : Nat) : Int) := by simp
    rw [this]; omega
  rw [e1, u64_or_nat _ _ (by omega) (by omega), or_open N v k h]
theorem div_step (N d : Nat) : hiN N d / 256 = hiN N (d + 1) := by
  unfold hiN
  rw [Nat.div_div_eq_div_mul, show (256 : Nat) = 2 ^ 8 from rfl, ← Nat.pow_add, Nat.mul_add]
def bitCells (N k : Nat) : List Value := (List.range k).map fun i => Value.int .u8 ((N / 2 ^ i % 2 : Nat) : Int)
theorem bitCells_succ (N k : Nat) : bitCells N (k + 1) = bitCells N k ++ [Value.int .u8 ((N / 2 ^ k % 2 : Nat) : Int)] := by simp [bitCells, List.range_succ]
theorem bitCells_get (N k i : Nat) (h : i < k) : (bitCells N k)[i]? = some (Value.int .u8 ((N / 2 ^ i % 2 : Nat) : Int)) := by simp [bitCells, h]
theorem bitCells_cong {N M k : Nat} (h : N % 2 ^ k = M % 2 ^ k) : bitCells N k = bitCells M k := by
  unfold bitCells
  apply List.map_congr_left
  intro j hj
  have hj := List.mem_range.1 hj
  have e1 := mdm N k j 1 (by omega)
  have e2 := mdm M k j 1 (by omega)
  rw [h] at e1
  have e3 : N / 2 ^ j % 2 = M / 2 ^ j % 2 := e1.symm.trans e2
  rw [e3]
end Go.Proofs.YtkmbgkcpohchhaaGreatDoor

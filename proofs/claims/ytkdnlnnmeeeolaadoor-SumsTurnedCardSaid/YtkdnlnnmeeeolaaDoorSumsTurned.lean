/- SumsTurned returns true for every text, int and uint32, and changes nothing that was there; no condition but that the listed table holds what the program's text lays. -/
import Derived.Test.YtkdnlnnmeeeolaaDoorSumC
import Derived.Test.YtkdnlnnmeeeolaaDoorSumF
import Derived.Test.YtkdnlnnmeeeolaaDoorSumM2
import Derived.Laws.IdiomStrings
import Derived.Deep.QuietTactic
import Derived.BigQuiet
namespace Go.Proofs.YtkdnlnnmeeeolaaDoor.sumsTurned
open Go.ChangeShapes Go.WideShapes Go.ChangeAt Go.WideMaps Go.WideElems Go.RowKit
open Go.ChangeMaps (open_string shut_string)
set_option linter.unusedVariables false

theorem quiet_flip {P : Program} {f : FuncId} {args : Array Value} {w : World} {n : Nat} {v : Value} (h : Calls P f args (w.drewN n) fun e w' => e = .returned v ∧ w.drewN n = w') :
    Calls P f args (w.drewN n) fun e w'' => e = .returned v ∧ ∃ m, w'' = w.drewN m := Calls.quiet_of_same (h.mono fun _ _ ⟨x, y⟩ => ⟨x, y.symm⟩)
/-- n bytes at the head of block g. -/
def ByB (w : World) (g n : Nat) (f : Nat → Nat) : Prop := ∀ j, j < n → w.cell? ⟨g, j, none⟩ = some (.int .u8 (f j : Nat)) ∧ w.frozen? ⟨g, j, none⟩ = false
theorem ByB.put {w : World} {g n : Nat} {f h : Nat → Nat} (k : Nat) (hb : ByB w g n f) (hk : k < n) (hf : ∀ j, j ≠ k → h j = f j) : ByB (w.setCell ⟨g, k, none⟩ (.int .u8 (h k : Nat))) g n h := fun j hj => by
  refine ⟨?_, by rw [World.frozen?_setCell]; exact (hb j hj).2⟩
  by_cases e : j = k
  · subst e; exact World.cell?_setCell_same _ _ _ (hb j hj).1
  · rw [World.cell?_setCell_other (h := by intro h; exact e (Addr.mk.inj h).2.1.symm), hf j e]; exact (hb j hj).1
theorem ByB.drewN {w : World} {g n : Nat} {f : Nat → Nat} (h : ByB w g n f) (k : Nat) : ByB (w.drewN k) g n f := h
def trnS (s : ByteArray) (pat p i : Nat) : ByteArray := ⟨((List.range s.size).map fun j => UInt8.ofNat (trnB s pat p i j)).toArray⟩
theorem trnS_size (s : ByteArray) (pat p i : Nat) : (trnS s pat p i).size = s.size := by
  show ((List.range s.size).map _).toArray.size = _
  simp
theorem trnS_byt (s : ByteArray) (pat p i j : Nat) (hj : j < s.size) : byt (trnS s pat p i) j = trnB s pat p i j := by
  have := trnB_lt s pat p i j
  unfold byt trnS
  rw [List.getD_eq_getElem?_getD, List.getElem?_eq_getElem (by simpa using hj)]
  simp
  omega
theorem conv_trn {P : Program} (w : World) (src dst e : TypeId) (hs : P.underlying src = some (.slice e)) (he : P.underlying e = some (.int .u8)) (hd : P.underlying dst = some .string)
    {g c : Nat} {s : ByteArray} {pat p i : Nat} (h : ByB w g s.size (trnB s pat p i)) :
    (convert src dst (.slice (some ⟨g, 0, none⟩) s.size c)).run P w = .ok (.string (trnS s pat p i)) w := by
  have hl : ((List.range s.size).map fun j => UInt8.ofNat (trnB s pat p i j)).length = s.size := by simp
  have := run_convert_bytes_back (P := P) w src dst e ⟨g, 0, none⟩ c ((List.range s.size).map fun j => UInt8.ofNat (trnB s pat p i j)) hs he hd (fun j hj => by
    have hj' : j < s.size := by rw [hl] at hj; exact hj
    have e0 : (Addr.add ⟨g, 0, none⟩ j) = ⟨g, j, none⟩ := by unfold Addr.add; split <;> simp_all
    rw [e0, (h j hj').1]
    have hb := trnB_lt s pat p i j
    simp
    omega)
  rw [hl] at this
  exact this
def crcS (s : ByteArray) : Nat := moreN 0 s.data.toList
theorem crc_anyS (s : ByteArray) (hs : s.size ≤ lim) (w : World) (hh : Halves w) : Calls Tryd.prog 10 #[.string s] w fun e w' => e = .returned (.int .u32 (crcS s : Nat)) ∧ w = w' := crc_any s hs w hh
theorem bit_cast (pat k : Nat) : ((pat : Int) / 2 ^ k).tmod 2 = ((pat / 2 ^ k % 2 : Nat) : Int) := by
  have e : (pat : Int) / 2 ^ k = ((pat / 2 ^ k : Nat) : Int) := by rw [Int.natCast_ediv, Int.natCast_pow]; rfl
  rw [e, Int.tmod_eq_emod_of_nonneg (Int.natCast_nonneg _)]; rfl
theorem bit_yes {pat k : Nat} (h : pat.testBit k = true) : (((pat : Int) / 2 ^ k).tmod 2 == 1) = true := by
  rw [Nat.testBit_eq_decide_div_mod_eq, decide_eq_true_eq] at h
  rw [bit_cast, h]; rfl
theorem bit_no {pat k : Nat} (h : ¬ pat.testBit k = true) : (((pat : Int) / 2 ^ k).tmod 2 == 1) = false := by
  rw [Nat.testBit_eq_decide_div_mod_eq, decide_eq_true_eq] at h
  rw [bit_cast, beq_eq_false_iff_ne]; omega
theorem stored (a k : Nat) (h : a < 256) : bits .xor .u8 (a : Int) (2 ^ (k % 8) % 256) = ((a ^^^ 2 ^ (k % 8) : Nat) : Int) := by
  have h2 : 2 ^ (k % 8) < 256 := Nat.lt_of_le_of_lt (Nat.pow_le_pow_right (by decide) (show k % 8 ≤ 7 by omega)) (by decide)
  have e : (2 : Int) ^ (k % 8) % 256 = ((2 ^ (k % 8) : Nat) : Int) := by
    rw [show (2 : Int) ^ (k % 8) = ((2 ^ (k % 8) : Nat) : Int) by rw [Int.natCast_pow]; rfl]
    exact Int.emod_eq_of_lt (Int.natCast_nonneg _) (Int.ofNat_lt.2 h2)
  rw [e]
  exact u8_xor_nat _ _ h h2
theorem trnT_yes {pat p n k : Nat} (h : pat.testBit k = true) (hn : p + k / 8 < n) : trnT pat p n (k + 1) = true := by simp [trnT, h, hn]
theorem trnT_out {pat p n k : Nat} (hn : ¬ p + k / 8 < n) : trnT pat p n (k + 1) = trnT pat p n k := by simp [trnT, hn]
theorem trnT_no {pat p n k : Nat} (h : ¬ pat.testBit k = true) : trnT pat p n (k + 1) = trnT pat p n k := by simp [trnT, h]
theorem byB_start (s : ByteArray) (cap : Nat) (hc : s.size ≤ cap) (w : World) (pat p : Nat) {t : TypeId} : ByB (w.alloc (Obj.cells (bytesRow s cap) t ((bytesRow s cap).size, (bytesRow s cap).size + 1))).drew w.heap.size s.size (trnB s pat p 0) := fun j hj => by
  have hz : (bytesRow s cap).size = cap := by unfold bytesRow; simp; omega
  have hd : j < s.data.size := hj
  refine ⟨?_, ?_⟩
  · show (w.alloc _).cell? _ = _
    rw [World.cell?_alloc_mark, bytesRow_at s cap j hd, trnB_0, byt_at s j hj]; rfl
  · show (w.alloc _).frozen? _ = _
    rw [World.frozen?_alloc_mark, hz]; simp; omega
theorem crc_turned (s : ByteArray) (pat p : Nat) (hp : pat < 4294967296) (hs : p ≤ s.size) (h : trnT pat p s.size 32 = true) : crcS (trnS s pat p 32) ≠ crcS s := by
  unfold crcS
  rw [moreN_byt, moreN_byt, trnS_size]
  intro e
  have h1 := congrArg crcI e
  rw [crcI_I, crcI_I, crcB_congr fun j hj => trnS_byt s pat p 32 j hj] at h1
  exact trn_ne s pat p hp hs h _ h1

set_option maxRecDepth 100000 in
set_option maxHeartbeats 2000000 in
theorem walkP (s : ByteArray) (hs : s.size ≤ 140737488351232) (h0 : 0 < s.size) (at1 : Int) (p : Nat) (hp : p < s.size) (hat : at1 % (s.size : Int) = p) (h1 : 0 ≤ at1) (h2 : at1 ≤ 9223372036854775807) (pat : Nat) (hpat : pat < 4294967296) (hpat0 : 0 < pat) (w : World) (hh : Halves w) :
    Calls Tryd.prog 8 #[.string s, .int .i64 at1, .int .u32 pat] w fun e w' => e = .returned (.bool true) ∧ Bw w w' := by
  have HH := hid hh
  clear hh
  have hz : ((s.size : Int) == 0) = false := by rw [beq_eq_false_iff_ne]; omega
  have hz2 : ((pat : Int) == 0) = false := by simp; omega
  have hcv := run_bytes_of_string (P := Tryd.prog) w 9 32 5 s Tryd.underlying9 Tryd.underlying32 Tryd.underlying5
  generalize hcap : grownCap w s.size 0 5 = cap at *
  have HC := hid hcap
  clear hcap
  have hd : decide (at1 < 0) = false := by simp; omega
  go_enter Tryd.func8, Tryd.ntmps8
  go_wp2
  try simp only [hat]
  have HAT := hid hat
  have HP := hid hpat
  have HCV := hid hcv
  clear hat hcv
  have hcl : s.size ≤ cap := by have := grownCap_ge w s.size 0 5; rw [HC.out] at this; exact this
  go_loopw [8, 9] (fun t i wr => ∃ k : Nat, k ≤ 32 ∧ i = .int .i64 k ∧ t = .bool (trnT pat p s.size k) ∧ ByB wr w.heap.size s.size (trnB s pat p k) ∧ Below w.heap.size w wr)
    (fun _ i _ => 32 - (intOf i).toNat)
  case atStart =>
    refine ⟨0, Nat.zero_le _, rfl, rfl, ?_, ?_⟩
    · exact byB_start s cap hcl _ pat p
    · exact below_drewN ((Below.refl _ _).alloc (Nat.le_refl _) _) 1
  case round =>
    obtain ⟨k, hk, rfl, rfl, hB, hbel⟩ := hrel
    by_cases hlt : k < 32
    · by_cases hbit : pat.testBit k = true
      · by_cases hin : p + k / 8 < s.size
        · obtain ⟨hcB, hfB⟩ := hB (p + k / 8) hin
          have ht : (((pat : Int) / 2 ^ k).tmod 2 == 1) = true := bit_yes hbit
          go_wp2
          all_goals go_roundw
          case rel =>
            have HX := hB.put (h := trnB s pat p (k + 1)) (p + k / 8) hin (fun j hj => trnB_far s pat p k j (fun h => hj h.symm))
            rw [trnB_yes s pat p k hbit, ← stored _ _ (trnB_lt s pat p k _)] at HX
            exact ⟨k + 1, by omega, by go_num, by rw [trnT_yes hbit hin], HX, hbel.setCell (by simp) _⟩
          case measure => simp [intOf]; omega
        · have ht : (((pat : Int) / 2 ^ k).tmod 2 == 1) = true := bit_yes hbit
          go_wp2
          all_goals go_roundw
          case rel => exact ⟨k + 1, by omega, by go_num, by rw [trnT_out hin], fun j hj => by rw [trnB_far s pat p k j (by omega)]; exact hB j hj, hbel⟩
          case measure => simp [intOf]; omega
      · have ht : (((pat : Int) / 2 ^ k).tmod 2 == 1) = false := bit_no hbit
        go_wp2
        all_goals go_roundw
        case rel => exact ⟨k + 1, by omega, by go_num, by rw [trnT_no hbit], fun j hj => by rw [trnB_no s pat p k j (by simpa using hbit)]; exact hB j hj, hbel⟩
        case measure => simp [intOf]; omega
    · obtain rfl : 32 = k := by omega
      have HW := hid (HH.out.bw hbel HH.out.lt)
      by_cases ht : trnT pat p s.size 32 = true
      · have hne := crc_turned s pat p HP.out (by omega) ht
        have hE : ((crcS (trnS s pat p 32) : Int) != (crcS s : Int)) = true := by simp; omega
        have hcb := conv_trn (P := Tryd.prog) wr 32 9 5 Tryd.underlying32 Tryd.underlying5 Tryd.underlying9 (c := cap) hB
        have HT := hid (show (trnS s pat p 32).size ≤ lim by rw [trnS_size]; unfold lim; omega)
        have HS := hid (show s.size ≤ lim by unfold lim; omega)
        clear hne
        go_wp2_with fail
        refine (crc_anyS _ HT.out _ HW.out).mono ?_
        rintro e w' ⟨rfl, rfl⟩
        go_wp2_with fail
        refine (crc_anyS s HS.out _ HW.out).mono ?_
        rintro e w' ⟨rfl, rfl⟩
        go_wp2_with fail
        refine (live_any _ HW.out).mono ?_
        rintro e w' ⟨rfl, rfl⟩
        go_wp2
        go_returns
        exact ⟨rfl, Bw.at_end hbel⟩
      · have ht2 : trnT pat p s.size 32 = false := by simpa using ht
        clear ht
        go_wp2_with fail
        refine (live_any _ HW.out).mono ?_
        rintro e w' ⟨rfl, rfl⟩
        go_wp2
        go_returns
        exact ⟨rfl, Bw.at_end hbel⟩

set_option maxRecDepth 100000 in
set_option maxHeartbeats 2000000 in
theorem walkM (s : ByteArray) (hs : s.size ≤ 140737488351232) (h0 : 0 < s.size) (at1 : Int) (p : Nat) (hp : p < s.size) (hat : -(at1 + 1).tmod (s.size : Int) = p) (h1 : at1 < 0) (h2 : -9223372036854775808 ≤ at1) (pat : Nat) (hpat : pat < 4294967296) (hpat0 : 0 < pat) (w : World) (hh : Halves w) :
    Calls Tryd.prog 8 #[.string s, .int .i64 at1, .int .u32 pat] w fun e w' => e = .returned (.bool true) ∧ Bw w w' := by
  have HH := hid hh
  clear hh
  have hz : ((s.size : Int) == 0) = false := by rw [beq_eq_false_iff_ne]; omega
  have hz2 : ((pat : Int) == 0) = false := by simp; omega
  have hcv := run_bytes_of_string (P := Tryd.prog) w 9 32 5 s Tryd.underlying9 Tryd.underlying32 Tryd.underlying5
  generalize hcap : grownCap w s.size 0 5 = cap at *
  have HC := hid hcap
  clear hcap
  have hd : decide (at1 < 0) = true := by simp; omega
  go_enter Tryd.func8, Tryd.ntmps8
  go_wp2
  try simp only [hat]
  have HAT := hid hat
  have HP := hid hpat
  have HCV := hid hcv
  clear hat hcv
  have hcl : s.size ≤ cap := by have := grownCap_ge w s.size 0 5; rw [HC.out] at this; exact this
  go_loopw [8, 9] (fun t i wr => ∃ k : Nat, k ≤ 32 ∧ i = .int .i64 k ∧ t = .bool (trnT pat p s.size k) ∧ ByB wr w.heap.size s.size (trnB s pat p k) ∧ Below w.heap.size w wr)
    (fun _ i _ => 32 - (intOf i).toNat)
  case atStart =>
    refine ⟨0, Nat.zero_le _, rfl, rfl, ?_, ?_⟩
    · exact byB_start s cap hcl _ pat p
    · exact below_drewN ((Below.refl _ _).alloc (Nat.le_refl _) _) 1
  case round =>
    obtain ⟨k, hk, rfl, rfl, hB, hbel⟩ := hrel
    by_cases hlt : k < 32
    · by_cases hbit : pat.testBit k = true
      · by_cases hin : p + k / 8 < s.size
        · obtain ⟨hcB, hfB⟩ := hB (p + k / 8) hin
          have ht : (((pat : Int) / 2 ^ k).tmod 2 == 1) = true := bit_yes hbit
          go_wp2
          all_goals go_roundw
          case rel =>
            have HX := hB.put (h := trnB s pat p (k + 1)) (p + k / 8) hin (fun j hj => trnB_far s pat p k j (fun h => hj h.symm))
            rw [trnB_yes s pat p k hbit, ← stored _ _ (trnB_lt s pat p k _)] at HX
            exact ⟨k + 1, by omega, by go_num, by rw [trnT_yes hbit hin], HX, hbel.setCell (by simp) _⟩
          case measure => simp [intOf]; omega
        · have ht : (((pat : Int) / 2 ^ k).tmod 2 == 1) = true := bit_yes hbit
          go_wp2
          all_goals go_roundw
          case rel => exact ⟨k + 1, by omega, by go_num, by rw [trnT_out hin], fun j hj => by rw [trnB_far s pat p k j (by omega)]; exact hB j hj, hbel⟩
          case measure => simp [intOf]; omega
      · have ht : (((pat : Int) / 2 ^ k).tmod 2 == 1) = false := bit_no hbit
        go_wp2
        all_goals go_roundw
        case rel => exact ⟨k + 1, by omega, by go_num, by rw [trnT_no hbit], fun j hj => by rw [trnB_no s pat p k j (by simpa using hbit)]; exact hB j hj, hbel⟩
        case measure => simp [intOf]; omega
    · obtain rfl : 32 = k := by omega
      have HW := hid (HH.out.bw hbel HH.out.lt)
      by_cases ht : trnT pat p s.size 32 = true
      · have hne := crc_turned s pat p HP.out (by omega) ht
        have hE : ((crcS (trnS s pat p 32) : Int) != (crcS s : Int)) = true := by simp; omega
        have hcb := conv_trn (P := Tryd.prog) wr 32 9 5 Tryd.underlying32 Tryd.underlying5 Tryd.underlying9 (c := cap) hB
        have HT := hid (show (trnS s pat p 32).size ≤ lim by rw [trnS_size]; unfold lim; omega)
        have HS := hid (show s.size ≤ lim by unfold lim; omega)
        clear hne
        go_wp2_with fail
        refine (crc_anyS _ HT.out _ HW.out).mono ?_
        rintro e w' ⟨rfl, rfl⟩
        go_wp2_with fail
        refine (crc_anyS s HS.out _ HW.out).mono ?_
        rintro e w' ⟨rfl, rfl⟩
        go_wp2_with fail
        refine (live_any _ HW.out).mono ?_
        rintro e w' ⟨rfl, rfl⟩
        go_wp2
        go_returns
        exact ⟨rfl, Bw.at_end hbel⟩
      · have ht2 : trnT pat p s.size 32 = false := by simpa using ht
        clear ht
        go_wp2_with fail
        refine (live_any _ HW.out).mono ?_
        rintro e w' ⟨rfl, rfl⟩
        go_wp2
        go_returns
        exact ⟨rfl, Bw.at_end hbel⟩

set_option maxRecDepth 100000 in
set_option maxHeartbeats 2000000 in
theorem walkZ (s : ByteArray) (hs : s.size ≤ 140737488351232) (h0 : s.size = 0) (at1 : Int) (pat : Nat) (w : World) (hh : Halves w) :
    Calls Tryd.prog 8 #[.string s, .int .i64 at1, .int .u32 pat] w fun e w' => e = .returned (.bool true) ∧ Bw w w' := by
  have HH := hid hh
  clear hh
  have hz : ((s.size : Int) == 0) = true := by rw [beq_iff_eq]; omega
  clear h0
  go_enter Tryd.func8, Tryd.ntmps8
  go_wp2_with fail
  refine (live_any _ HH.out).mono ?_
  rintro e w' ⟨rfl, rfl⟩
  go_wp2
  go_returns
  exact ⟨rfl, Bw.refl _⟩

set_option maxRecDepth 100000 in
set_option maxHeartbeats 2000000 in
theorem walkY (s : ByteArray) (hs : s.size ≤ 140737488351232) (h0 : s.size ≠ 0) (at1 : Int) (w : World) (hh : Halves w) :
    Calls Tryd.prog 8 #[.string s, .int .i64 at1, .int .u32 0] w fun e w' => e = .returned (.bool true) ∧ Bw w w' := by
  have HH := hid hh
  clear hh
  have hz : ((s.size : Int) == 0) = false := by rw [beq_eq_false_iff_ne]; omega
  go_enter Tryd.func8, Tryd.ntmps8
  go_wp2_with fail
  refine (live_any _ HH.out).mono ?_
  rintro e w' ⟨rfl, rfl⟩
  go_wp2
  go_returns
  exact ⟨rfl, Bw.refl _⟩

theorem walk (s : ByteArray) (hs : s.size ≤ 140737488351232) (at1 : Int) (ha : (Lit.int .i64 at1).wf = true) (q : Int) (hq : (Lit.int .u32 q).wf = true) (w : World) (hh : Halves w) :
    Calls Tryd.prog 8 #[.string s, .int .i64 at1, .int .u32 q] w fun e w' => e = .returned (.bool true) ∧ Bw w w' := by
  have b1 := bounds_i64 ha
  have b2 := bounds_u32 hq
  obtain ⟨pat, rfl⟩ := Int.eq_ofNat_of_zero_le b2.1
  by_cases h0 : s.size = 0
  · exact walkZ s hs h0 at1 pat w hh
  by_cases hp : pat = 0
  · subst hp; exact walkY s hs h0 at1 w hh
  have hz : (0 : Int) < s.size := by omega
  by_cases hn : at1 < 0
  · have e : (-(at1 + 1)).tmod (s.size : Int) = (-(at1 + 1)) % (s.size : Int) := Int.tmod_eq_emod_of_nonneg (by omega)
    have h1 := Int.emod_nonneg (-(at1 + 1)) (show (s.size : Int) ≠ 0 by omega)
    have h2 := Int.emod_lt_of_pos (-(at1 + 1)) hz
    refine walkM s hs (by omega) at1 ((-(at1 + 1)) % (s.size : Int)).toNat (by omega) ?_ hn b1.1 pat (by omega) (by omega) w hh
    rw [← Int.neg_tmod, e]; omega
  · have h1 := Int.emod_nonneg at1 (show (s.size : Int) ≠ 0 by omega)
    have h2 := Int.emod_lt_of_pos at1 hz
    exact walkP s hs (by omega) at1 (at1 % (s.size : Int)).toNat (by omega) (by omega) (by omega) b1.2 pat (by omega) (by omega) w hh

/-! The frame: from the walk to the statement. -/
set_option maxRecDepth 100000 in
theorem lifted (os : Os) (started : os.Started) (H : Type) (enc : TypeId × Value → H) :
    ReturnsInHanded {} Tryd.checked os 8 .any (fun w args => (Rows.sumsTurnedSpec.pre enc Tryd.prog Tryd.f8 [] false w args ∧ laidMetH Tryd.prog Rows.sumsCrcRow.laid w) ∧ sizedMet enc Tryd.prog Tryd.f8 (OpenSpec.ofChange Rows.sumsTurnedSpec) false w args)
      (Rows.sumsTurnedSpec.post enc Tryd.prog Tryd.f8 false true false false) := by
  refine returnsInHanded_of_change_and (C := Tryd.checked) (X := fun w _ => laidMetH Tryd.prog Rows.sumsCrcRow.laid w) (fun _ _ _ hh h => h.of_heap hh) own started (by kernel_rfl) Tryd.func8
    (ChangeSpec.witness_shaped (enc := enc) (C := Tryd.checked) (os := os) (X := fun w _ => laidMetH Tryd.prog Rows.sumsCrcRow.laid w) false (World.doorLaid Tryd.prog 400 os) #[.string ⟨#[]⟩, .int .i64 0, .int .u32 0] 8 rfl (World.shaped_of_RefB (by kernel_rfl) (by kernel_rfl)) (by kernel_rfl) (by kernel_rfl) (by kernel_rfl) (door_met os _)) ?_
  intro W base args ds gs before hval0 hW _ hsz0 hL _
  have hval : ∀ (j : Nat) t v, Tryd.f8.params[j]? = some t → args[j]? = some v → Value.okWide Tryd.prog W .any base t v := hval0
  have hW' := hW
  obtain ⟨p, q, hA0, hV, rfl, hfz, hnd⟩ := hW
  have hA : DataW.TrodAll enc Tryd.prog W 0 (fun _ => true) true Tryd.f8.params.toList args.toList ds p := hA0
  have hsz : (DataW.weightsEach Tryd.prog (Tryd.f8.params.toList ++ Rows.sumsTurnedSpec.plain.varTypes Tryd.prog) (ds ++ gs)).all (· ≤ reachBytes) = true := hsz0
  rw [Tryd.params8] at hA hval hsz
  obtain ⟨v0, vs0, d0, ds0, p0, q0, hargs, rfl, rfl, h0, r0⟩ := trodAll_cons hA
  obtain ⟨v1, vs1, d1, ds1, p1, q1, rfl, rfl, rfl, h1, r1⟩ := trodAll_cons r0
  obtain ⟨v2, vs2, d2, ds2, p2, q2, rfl, rfl, rfl, h2, r2⟩ := trodAll_cons r1
  obtain ⟨rfl, rfl, rfl⟩ := trodAll_nil r2
  obtain rfl : args = #[v0, v1, v2] := by cases args; simp_all
  obtain ⟨rfl, rfl⟩ := trodVars_none hV
  obtain ⟨a0, rfl, rfl, rfl, w0⟩ := open_string Tryd.underlying9 (hval 0 9 v0 rfl rfl) h0
  have z0 := sized_string hsz (j := 0) (t := 9) (bytes := a0.data.toList) rfl rfl
  obtain ⟨a1, rfl, rfl, rfl, w1⟩ := open_int Tryd.underlying3 (hval 1 3 v1 rfl rfl) h1
  obtain ⟨a2, rfl, rfl, rfl, w2⟩ := open_int Tryd.underlying22 (hval 2 22 v2 rfl rfl) h2
  clear hA0 hval0
  try simp only [List.append_nil] at hW'
  refine (walk a0 (str_le z0) a1 w1 a2 w2 W (halves_of hL)).mono fun e W' ⟨he, bel⟩ => ?_
  subst he
  exact ⟨_, rfl, _, _, _, [], _, [], hW', trodAll_mk1 (shut_bool Tryd.underlying4 _), (trodAll_cons_mk (shut_string Tryd.underlying9 w0) (trodAll_cons_mk (shut_int Tryd.underlying3 w1) (trodAll_cons_mk (shut_int Tryd.underlying22 w2) trodAll_mk0))), rfl, Below.frame bel _, fun h => by cases h⟩

theorem holds : Rows.SumsTurnedSaid :=
  OpenClaim.holds_of_wide 8 Tryd.f8 rfl rfl rfl rfl rfl rfl rfl ⟨rfl, rfl, rfl, rfl, rfl⟩ rfl rfl rfl rfl rfl (by kernel_rfl) Tryd.func8 (by kernel_rfl)
    (of_decide_eq_true (by kernel_rfl)) (by unfold Func.isWrapper; first | (rw [if_pos (by decide +kernel)]; kernel_rfl) | (rw [if_neg (by decide +kernel)]; exact ⟨rfl, rfl⟩))
    (fun os started H enc _ => lifted os started H enc)

theorem proved : Rows.SumsTurnedCardSaid :=
  Claim7.holds_tied_plain_at .later [] [.data] true _ false
    holds (fun _ h => by cases h) (by kernel_rfl) (fun _ h => by cases h) sumsTurned_row_tie rfl ⟨rfl, rfl⟩ (by kernel_rfl) rfl
    (fun f fn hf hfn => by
      obtain rfl : f = 8 := Option.some.inj ((show Tryd.prog.funcNamed "mortise/mortiselaw03.SumsTurned" = some 8 by kernel_rfl).symm.trans hf) |>.symm
      obtain rfl : fn = Tryd.f8 := (Option.some.inj (Tryd.func8.symm.trans hfn)).symm
      exact ⟨by kernel_rfl, fun j t ht => by
        rw [Tryd.params8] at ht
        have hm : t ∈ [9, 3, 22] := by simpa using Array.mem_of_getElem? ht
        have hall : ([9, 3, 22].all fun u => !Tryd.prog.wantsStandIn u) = true := by kernel_rfl
        exact (show Tryd.prog.wantsStandIn t = false by simpa using List.all_eq_true.1 hall t hm)⟩)
    (by kernel_rfl)
end Go.Proofs.YtkdnlnnmeeeolaaDoor.sumsTurned

/- MatchRuns returns true for every byte and every number, and changes nothing that was there; no condition. -/
import Derived.Test.YthegehgjpehfkaaMapF
import Derived.Test.YthegehgjpehfkaaMatO
import Derived.Test.YthegehgjpehfkaaMatG
import Derived.Test.YthegehgjpehfkaaMatJ
import Derived.SizedLaws
import Derived.ChangeMaps5
import Derived.Laws.MakeOwn
import Derived.ProofKit
import Derived.OpenShut
import Derived.ShutString
import Derived.ChangeOld
namespace Go.Proofs.Ythegehgjpehfkaa.matchRuns
open Go.RowKit Go.ChangeShapes Go.ChangeMaps Go.WideShapes Go.ChangeAt
set_option linter.unusedVariables false

def runArr (b : Nat) (n k : Nat) : Array Value := ((List.range n).map fun i => Value.int .u8 (if i < k then (b : Int) else 0)).toArray
theorem runArr_get (b n k i : Nat) (h : i < n) : (runArr b n k)[i]? = some (.int .u8 (if i < k then (b : Int) else 0)) := by simp [runArr, h]
theorem runArr_put (b n k : Nat) (h : k < n) : (runArr b n k).setIfInBounds k (.int .u8 b) = runArr b n (k + 1) := by
  apply Array.ext_getElem?
  intro i
  have hsz : (runArr b n k).size = n := by simp [runArr]
  rw [Array.getElem?_setIfInBounds, hsz]
  by_cases hi : i < n
  · rw [runArr_get b n (k + 1) i hi]
    by_cases e : k = i
    · subst e
      rw [if_pos rfl, if_pos h, if_pos (by omega)]
    · rw [if_neg e, runArr_get b n k i hi]
      by_cases hik : i < k
      · rw [if_pos hik, if_pos (by omega)]
      · rw [if_neg hik, if_neg (by omega)]
  · have e : k ≠ i := by omega
    rw [if_neg e, Array.getElem?_eq_none (by rw [hsz]; omega), Array.getElem?_eq_none (by simp [runArr]; omega)]
theorem made_run (b n : Nat) : madeCells (Value.int .u8 0).cells (n * 1) = runArr b n 0 := by
  apply Array.ext
  · simp [madeCells, runArr]
  · intro i h1 h2
    simp [madeCells, runArr, Value.cells, Nat.mod_one]
theorem make_run (b n : Nat) (hn : n ≤ 100000) (w : World) : (Instr.makeSlice 33 (.int .i64 n) (.int .i64 n)).run Try.prog w = .ok (.slice (some ⟨w.heap.size, 0, none⟩) n n) (w.alloc (.cells (runArr b n 0) 5)) := by
  obtain ⟨i0, hinf, hz0, hz1, hz2⟩ := info_parts byteInfo
  have := run_makeSlice (P := Try.prog) (w := w) 33 5 i0 (.int .u8 0) Try.underlying33 hinf hz0 .i64 .i64 n n (by omega) (by omega) (by rw [hz1]; simp; omega) (by rw [hz2]; omega) (by omega)
  rw [this, hz1]
  simp only [Int.toNat_natCast]
  rw [made_run b n]
def runS (b n : Nat) : ByteArray := ⟨(List.replicate n (UInt8.ofNat b)).toArray⟩
theorem runS_size (b n : Nat) : (runS b n).size = n := by
  show (List.replicate n (UInt8.ofNat b)).toArray.size = n
  simp
theorem runS_all (b n : Nat) : AllB (runS b n) (UInt8.ofNat b) := fun i hi => by
  rw [runS_size] at hi
  simp [runS, hi]
theorem conv_run (b n g : Nat) (hb : b < 256) (w : World) (h : Has w g 5 (runArr b n n)) : (convert 33 9 (.slice (some ⟨g, 0, none⟩) n n)).run Try.prog w = .ok (.string (runS b n)) w := by
  have := run_convert_bytes_back (P := Try.prog) w 33 9 5 ⟨g, 0, none⟩ n (List.replicate n (UInt8.ofNat b)) Try.underlying33 Try.underlying5 Try.underlying9 (fun j hj => by
    have hj' : j < n := by simpa using hj
    rw [addr_add, h.cell j, runArr_get b n n j hj', if_pos hj']
    simp [Nat.mod_eq_of_lt hb])
  rw [List.length_replicate] at this
  exact this
set_option maxRecDepth 100000 in
set_option maxHeartbeats 4000000 in
theorem walk (b : Nat) (hb : b < 256) (n : Int) (w : World) :
    Calls Try.prog 6 #[.int .u8 b, .int .i64 n] w fun e w' => e = .returned (.bool true) ∧ Bw w w' := by
  have HL := hid live_any
  have hor : n < 0 ∨ (0 ≤ n ∧ 20000 < n) ∨ (0 ≤ n ∧ n ≤ 20000) := by omega
  rcases hor with h1 | ⟨h1, h2⟩ | ⟨h1, h2⟩
  · go_enter Try.func6, Try.ntmps6
    go_wp2_with fail
    refine (HL.out _).mono ?_
    rintro e w2 ⟨rfl, hb⟩
    go_wp2
    go_returns
    exact ⟨rfl, hb⟩
  · have h1' : ¬ n < 0 := by omega
    go_enter Try.func6, Try.ntmps6
    go_wp2_with fail
    refine (HL.out _).mono ?_
    rintro e w2 ⟨rfl, hb⟩
    go_wp2
    go_returns
    exact ⟨rfl, hb⟩
  · obtain ⟨m, rfl⟩ := Int.eq_ofNat_of_zero_le h1
    have h1' : ¬ (m : Int) < 0 := by omega
    have h2' : ¬ (20000 : Int) < m := by omega
    have hm2 : m ≤ 20000 := by omega
    have hmk := fun W => make_run b m (by omega) W
    have HN := hid (Has.new w 5 (runArr b m 0))
    go_enter Try.func6, Try.ntmps6
    go_wp2
    go_loopw [6] (fun i wr => ∃ k : Nat, k ≤ m ∧ i = .int .i64 k ∧ Has wr w.heap.size 5 (runArr b m k) ∧ Bw w wr) (fun i _ => m - (intOf i).toNat)
    case atStart => exact ⟨0, Nat.zero_le _, rfl, HN.out, (Bw.refl w).alloc _⟩
    case round =>
      rename World => wr
      obtain ⟨k, hk, rfl, hh, hbw⟩ := hrel
      have HH := hid hh
      have HB := hid hbw
      clear hmk
      by_cases hlt : k < m
      · have hk1 : (k : Int) < m := by omega
        have c0 : wr.cell? ⟨w.heap.size, k, none⟩ = some (.int .u8 0) := by
          rw [hh.cell k, runArr_get b m k k hlt, if_neg (by omega)]
        have f0 := hh.frozen k
        have HP := hid (HH.out.put k (.int .u8 b))
        rw [runArr_put b m k hlt] at HP
        clear hh hbw
        go_wp2
        exact ⟨⟨k + 1, by omega, by go_num, HP.out, HB.out.setCell (p := ⟨w.heap.size, k, none⟩) (Nat.le_refl _) _⟩, by simp [intOf]; omega⟩
      · obtain rfl : k = m := by omega
        have hcvf := fun (W : World) (h : Has W w.heap.size 5 (runArr b k k)) => conv_run b k w.heap.size hb W h
        have hsz := runS_size b k
        have hal := runS_all b k
        have HF := hid (find_any (runS b k) (by rw [hsz]; exact hm2) wr)
        generalize runS b k = s at *
        have hcv := hcvf wr hh
        have HCV := hid hcvf
        clear hcvf
        have HSZ := hid hsz
        have HAL := hid hal
        clear hh hbw hsz hal
        go_wp2_with fail
        refine HF.out.mono ?_
        rintro e w2 ⟨l, a, cap, rfl, hok, htk, hb2, -⟩
        have hl := hok.2.2.1
        rw [HSZ.out] at hl
        have hrun := hok.2.2.2 _ HAL.out
        rw [HSZ.out] at hrun
        have HX := hid (exp_end (limit := (k : Int)) (show lmB (k : Int) = true from decide_eq_true ⟨by omega, by omega⟩) (by have := hok.2.1; rw [HSZ.out] at this; exact this))
        have HE := hid (exp_any a l.length cap (by omega) l (hid rfl) k w2 htk)
        have HB2 := hid hb2
        obtain ⟨q, hq⟩ : ∃ q, l.length = q := ⟨_, rfl⟩
        rw [hq] at HE hl hrun
        have hqi : (q : Int) ≤ 3 + (k : Int) / 200 := by omega
        rw [hq]
        clear hok htk hb2 hq hrun hcv
        go_wp2_with fail
        refine HE.out.mono ?_
        rintro e w3 ⟨rfl, hb3⟩
        rw [HX.out.1, HX.out.2]
        have HB3 := hid (HB2.out.trans hb3)
        have hcv3 := HCV.out w3 (HB3.out.has HH.out)
        clear hb3
        go_wp2_with fail
        refine (HL.out _).mono ?_
        rintro e w4 ⟨rfl, hb4⟩
        have HB4 := hid (HB3.out.trans hb4)
        clear hb4
        go_wp2
        go_returns
        exact ⟨rfl, HB.out.trans HB4.out⟩
theorem walk2 (b : Int) (hb : (Lit.int .u8 b).wf = true) (n : Int) (w : World) :
    Calls Try.prog 6 #[.int .u8 b, .int .i64 n] w fun e w' => e = .returned (.bool true) ∧ Bw w w' := by
  have h : 0 ≤ b ∧ b < 256 := by
    simp [Lit.wf, IntKind.min, IntKind.max, IntKind.bits, IntKind.signed] at hb
    omega
  obtain ⟨c, rfl⟩ := Int.eq_ofNat_of_zero_le h.1
  exact walk c (by omega) n w

/-! The frame: from the walk to the statement. -/
theorem own : ownKnob Try.prog.godebug = none := by kernel_rfl
theorem laidOut : laidOutB Try.prog = true := by kernel_rfl
set_option maxRecDepth 100000 in
theorem lifted (os : Os) (started : os.Started) (H : Type) (enc : TypeId × Value → H) :
    ReturnsInHanded {} Try.checked os 6 .any (Rows.matchRunsSpec.pre6 enc Try.prog Try.f6 Rows.matchRunsRow.domain false) (Rows.matchRunsSpec.post enc Try.prog Try.f6 false true false false) := by
  refine returnsInHanded_of_change_sized (C := Try.checked) own started (by kernel_rfl) Try.func6
    (ChangeSpec.witness6 (enc := enc) (C := Try.checked) false ⟨#[], #[.int .u8 0, .int .i64 0], []⟩ 8 (by kernel_rfl) (by kernel_rfl) (by kernel_rfl) (by kernel_rfl)) ?_
  intro W base args ds gs before hval0 hW hcnd hsz0 _
  have hval : ∀ (j : Nat) t v, Try.f6.params[j]? = some t → args[j]? = some v → Value.okWide Try.prog W .any base t v := hval0
  have hW' := hW
  obtain ⟨p, q, hA0, hV, rfl, hfz, hnd⟩ := hW
  have hA : DataW.TrodAll enc Try.prog W 0 (fun _ => true) true Try.f6.params.toList args.toList ds p := hA0
  have hsz : (DataW.weightsEach Try.prog (Try.f6.params.toList ++ Rows.matchRunsSpec.plain.varTypes Try.prog) (ds ++ gs)).all (· ≤ reachBytes) = true := hsz0
  rw [Try.params6] at hA hval hsz
  obtain ⟨v0, vs0, d0, ds0, p0, q0, hargs, rfl, rfl, h0, r0⟩ := trodAll_cons hA
  obtain ⟨v1, vs1, d1, ds1, p1, q1, rfl, rfl, rfl, h1, r1⟩ := trodAll_cons r0
  obtain ⟨rfl, rfl, rfl⟩ := trodAll_nil r1
  obtain rfl : args = #[v0, v1] := by cases args; simp_all
  obtain ⟨rfl, rfl⟩ := trodVars_none hV
  obtain ⟨a0, rfl, rfl, rfl, w0⟩ := open_int Try.underlying5 (hval 0 5 v0 rfl rfl) h0
  obtain ⟨a1, rfl, rfl, rfl, w1⟩ := open_int Try.underlying3 (hval 1 3 v1 rfl rfl) h1
  clear hA0 hval0
  try simp only [List.append_nil] at hW'
  refine (walk2 a0 w0 a1 W).mono fun e W' ⟨he, bel⟩ => ?_
  subst he
  exact ⟨_, rfl, _, _, _, [], _, [], hW', trodAll_mk1 (shut_bool Try.underlying4 _), (trodAll_cons_mk (shut_int Try.underlying5 w0) (trodAll_cons_mk (shut_int Try.underlying3 w1) trodAll_mk0)), rfl, Below.frame bel _, fun h => by cases h⟩

theorem proved : Rows.MatchRunsSaid :=
  OpenClaim.holds_of_wide 6 Try.f6 rfl rfl rfl rfl rfl rfl rfl ⟨rfl, rfl, rfl, rfl, rfl⟩ rfl rfl rfl rfl rfl (by kernel_rfl) Try.func6 (by kernel_rfl)
    (of_decide_eq_true (by kernel_rfl)) (by unfold Func.isWrapper; first | (rw [if_pos (by decide +kernel)]; kernel_rfl) | (rw [if_neg (by decide +kernel)]; exact ⟨rfl, rfl⟩))
    (fun os started H enc _ => lifted os started H enc)
end Go.Proofs.Ythegehgjpehfkaa.matchRuns

/- A region that draws its order, whose callees only make memory: one walk in the text's order serves; the document's bytes, within, none. -/
import Derived.Test.YtciaebhkemdilaaElfN
import Derived.Test.YtciaebhkemdilaaWinZ
import Derived.Test.YtciaebhkemdilaaRowM
import Derived.Deep.QuietTactic
import Derived.BigQuiet
namespace Go.Proofs.Ytciaebhkemdilaa
open Go.RowKit
set_option linter.unusedVariables false
set_option linter.unusedSimpArgs false
/-- A world that differs from w by new blocks alone. -/
structure Later (w : World) where
  out : World
  bw : Bw w out
instance (w : World) : Nonempty (Later w) := ⟨⟨w, Bw.refl w⟩⟩
theorem wp_region_later {P : Program} {id : Nat} {Q : Exit → Act → World → Prop} {a : Act} {w : World} {l : List Oper} (hm : P.follows .mixedOrders = true) (hB : Region.lexB .any l.toArray = true)
    (h : wpQuiet P l.toArray (fun W => ∃ r : Later w, W = r.out) (fun a' => ∀ w', (∃ r : Later w, w' = r.out) → Q .normal a' w') l a) : (Code.region id l.toArray true).wp P Q a w :=
  wp_region_quiet (C := fun W => ∃ r : Later w, W = r.out) hm hB ⟨⟨{ w with drawn := w.drawn + 1 }, (Bw.refl w).drewN 1⟩, rfl⟩ (by simpa using h)
theorem Calls.later {P : Program} {f : FuncId} {args : Array Value} {w : World} (r : Later w) {v : Value} (h : Calls P f args r.out fun e w' => e = .returned v ∧ Bw r.out w') : Calls P f args r.out fun e w'' => e = .returned v ∧ ∃ r' : Later w, w'' = r'.out :=
  h.mono fun _ w' ⟨he, hb⟩ => ⟨he, ⟨w', r.bw.trans hb⟩, rfl⟩
theorem Has.later {w : World} {g : Nat} {t : TypeId} {cs : Array Value} (h : Has w g t cs) (i : Nat) (v : Value) (hi : cs[i]? = some v) (r : Later w) : r.out.cell? ⟨g, i, none⟩ = some v := ((r.bw.has h).cell i).trans hi
set_option maxHeartbeats 1000000 in
theorem dbytes_any (d : Nat) (hd : widB (d : Int) = true) (hd8 : d ≤ 8) (n : Nat) (hn : n < 2 ^ (8 * d)) (w : World) :
    Calls Try.prog 67 #[.int .u64 n, .int .i64 d] w fun e w' => e = .returned (.string (bytesS n d false)) ∧ Bw w w' := by
  have hn8 : n < 18446744073709551616 := Nat.lt_of_lt_of_le hn (Nat.pow_le_pow_right (by decide) (show 8 * d ≤ 64 by omega))
  have HBY := hid (fun W => refbytes_any n (by omega) (d : Nat) false W)
  have e0 := bytesE_ok (m := n) (d := d) hd (Nat.div_eq_of_lt hn)
  rw [bytesV_ok e0, e0] at HBY
  obtain ⟨t, ht⟩ : ∃ t, bytesS n d false = t := ⟨_, rfl⟩
  rw [ht] at HBY ⊢
  clear ht e0 hn
  go_enter Try.func67, Try.ntmps67
  go_wp2_with fail
  refine (HBY.out _).mono ?_
  rintro e w2 ⟨rfl, hb⟩
  have HB := hid hb
  clear hb
  go_wp2
  go_returns
  exact ⟨rfl, HB.out⟩
theorem d2_any (n : Nat) (hn : n < 65536) (w : World) : Calls Try.prog 67 #[.int .u64 n, .int .i64 2] w fun e w' => e = .returned (.string (bytesS n 2 false)) ∧ Bw w w' := dbytes_any 2 (by decide) (by decide) n hn w
theorem d4_any (n : Nat) (hn : n < 4294967296) (w : World) : Calls Try.prog 67 #[.int .u64 n, .int .i64 4] w fun e w' => e = .returned (.string (bytesS n 4 false)) ∧ Bw w w' := dbytes_any 4 (by decide) (by decide) n hn w
theorem d8_any (n : Nat) (hn : n < 18446744073709551616) (w : World) : Calls Try.prog 67 #[.int .u64 n, .int .i64 8] w fun e w' => e = .returned (.string (bytesS n 8 false)) ∧ Bw w w' := dbytes_any 8 (by decide) (by decide) n hn w
theorem byteInfoQ : (Try.prog.info? 5).map (fun i => (i.zero, i.size, i.bytes)) = some (some (.int .u8 0), 1, 1) := by kernel_rfl
theorem make_bytes (N : Nat) (hN : N ≤ 1000) (w : World) : (Instr.makeSlice 40 (.int .i64 N) (.int .i64 N)).run Try.prog w = .ok (.slice (some ⟨w.heap.size, 0, none⟩) N N) (w.alloc (.cells (madeCells #[.int .u8 0] N) 5)) := by
  obtain ⟨i0, hinf, hz0, hz1, hz2⟩ := info_parts byteInfoQ
  have := run_makeSlice (P := Try.prog) (w := w) 40 5 i0 (.int .u8 0) Try.underlying40 hinf hz0 .i64 .i64 N N (by omega) (by omega) (by rw [hz1]; simp; omega) (by rw [hz2]; omega) (by omega)
  rw [this, hz1]
  simp only [Int.toNat_natCast, Nat.mul_one]
  rfl
theorem made_zero : ∀ N, madeCells #[.int .u8 0] N = (List.replicate N (Value.int .u8 0)).toArray := by
  intro N
  apply Array.ext
  · simp [madeCells]
  · intro i h1 h2
    simp [madeCells, Nat.mod_one]
theorem strCells_zeros (N : Nat) : Lib.strCells (zerosT N) = List.replicate N (.int .u8 0) := by
  unfold Lib.strCells zerosT
  rw [List.map_replicate]
  rfl
/-- What make lays. -/
theorem RowM.zeros (w : World) (B N : Nat) (hN : N ≤ maxLen) (hB : B ≤ w.heap.size) : RowM (w.alloc (.cells (madeCells #[.int .u8 0] N) 5)) B 5 (.slice (some ⟨w.heap.size, 0, none⟩) N N) (zerosT N) := by
  refine .inr ⟨w.heap.size, N, madeCells #[.int .u8 0] N, (0, 0), by rw [zerosT_size], hB, heap_alloc_new w _, .inl rfl, by rw [zerosT_size]; exact Nat.le_refl _, hN, ?_, ?_⟩
  · rw [made_zero]; simp
  · rw [made_zero, zerosT_size, strCells_zeros]; simp
end Go.Proofs.Ytciaebhkemdilaa

/- What regions' texts lean on: rows that a call owns, spans in a row, SameSpans. -/
import Derived.Test.YtemgdnloabefjaaRows
import Derived.Test.YtemgdnloabefjaaBase
import Derived.Test.YtemgdnloabefjaaComm
import Derived.Test.YtemgdnloabefjaaKeep
import Derived.Maps.AppendAt
import Derived.OwnWalk
import Derived.Deep.QuietTactic
import Derived.BigQuiet
namespace Go.Proofs.Ytemgdnloabefjaa
open Go.RowKit Go.Conc
set_option linter.unusedVariables false
section
variable {w w' : World} {B : Nat} {e : TypeId} {size n : Nat} {v : Value} {xs : List Value}
theorem own_slice (h : w.ownsRow B e size v n xs) : ∃ a cap, v = .slice a n cap := by
  rcases h.2 with ⟨rfl, h0⟩ | ⟨g', cap, cur, rfl, _⟩
  · obtain rfl : n = 0 := h0
    exact ⟨none, 0, rfl⟩
  · exact ⟨_, cap, rfl⟩
theorem own_at (h : w.ownsRow B e size v n xs) {b : Nat} (hb : v.ownBlock = some b) : ∃ cur, w.heap[b]? = some (.cells cur e (0, 0)) := by
  rcases h.2 with ⟨rfl, _⟩ | ⟨g', cap, cur, rfl, _, hh, _⟩
  · simp [Value.ownBlock] at hb
  · have : g' = b := by simpa [Value.ownBlock] using hb
    subst this
    exact ⟨cur, hh⟩
theorem own_lt (h : w.ownsRow B e size v n xs) {b : Nat} (hb : v.ownBlock = some b) : b < w.heap.size := by
  obtain ⟨cur, hh⟩ := own_at h hb
  exact (Array.getElem?_eq_some_iff.1 hh).1
theorem own_ge (h : w.ownsRow B e size v n xs) {b : Nat} (hb : v.ownBlock = some b) : B ≤ b := by
  rcases h.2 with ⟨rfl, _⟩ | ⟨g', cap, cur, rfl, hg, hh, _⟩
  · simp [Value.ownBlock] at hb
  · have : g' = b := by simpa [Value.ownBlock] using hb
    omega
theorem own_keep (h : w.ownsRow B e size v n xs) (hk : ∀ b, v.ownBlock = some b → w'.heap[b]? = w.heap[b]?) : w'.ownsRow B e size v n xs := by
  refine ⟨h.1, ?_⟩
  rcases h.2 with ⟨rfl, h0⟩ | ⟨g', cap, cur, rfl, h1, hh, h2⟩
  · exact .inl ⟨rfl, h0⟩
  · exact .inr ⟨g', cap, cur, rfl, h1, (hk g' (by simp [Value.ownBlock])).trans hh, h2⟩
theorem own_ne_has (h : w.ownsRow B e size v n xs) {g : Nat} {t : TypeId} {cs : Array Value} (hg : Has w g t cs) (hne : e ≠ t) : v.ownBlock ≠ some g := fun hb => by
  obtain ⟨cur, hc⟩ := own_at h hb
  unfold Has at hg
  rw [hg] at hc
  injection hc with hc
  injection hc with _ ht
  exact hne ht.symm
theorem own_grown {w1 w2 : World} {row : Option Nat} (hB : B ≤ w1.heap.size) (h : ∀ b, row = some b → B ≤ b) (hg : w1.grownBy w2 row) : Below B w1 w2 :=
  ⟨hg.os, hg.tape, hg.output, hg.size, fun i hi => hg.block i (by omega) (fun hx => by have := h i hx.symm; omega)⟩
end
theorem has_grown {w w' : World} {g : Nat} {t : TypeId} {cs : Array Value} (h : Has w g t cs) {row : Option Nat} (hg : w.grownBy w' row) (hr : row ≠ some g) : Has w' g t cs := (hg.block g h.lt (fun e => hr e.symm)).trans h
theorem addr_add (g j : Nat) : (Addr.add ⟨g, 0, none⟩ j) = ⟨g, j, none⟩ := by
  unfold Addr.add
  by_cases hz : j = 0
  · simp [hz]
  · simp; omega
theorem spanInfo : (Try.prog.info? 31).map (fun i => (i.zero, i.size, i.bytes)) = some (some (.agg #[.int .i64 0, .int .i64 0]), 2, 16) := by kernel_rfl
def spanCells (l : List (Nat × Nat)) : List Value := l.flatMap fun x => [.int .i64 x.1, .int .i64 x.2]
theorem spanCells_snoc (l : List (Nat × Nat)) (a b : Nat) : spanCells (l ++ [(a, b)]) = spanCells l ++ [.int .i64 a, .int .i64 b] := by simp [spanCells]
theorem own_two (w : World) (x y : Value) (t : TypeId) : ∀ j u, [x, y][j]? = some u → (w.alloc (.cells #[x, y] t)).cell? ((⟨w.heap.size, 0, none⟩ : Addr).add j) = some u := by
  intro j u hj
  have hn := Has.new w t #[x, y]
  match j, hj with
  | 0, hj =>
    simp at hj; subst hj
    exact hn.cell 0
  | 1, hj =>
    simp at hj; subst hj
    exact hn.cell 1
theorem two_at {W : World} {n : Nat} (h : W.heap.size = n) (x y : Value) (t : TypeId) : ∀ j u, [x, y][j]? = some u → (W.alloc (.cells #[x, y] t)).cell? ((⟨n, 0, none⟩ : Addr).add j) = some u := by
  subst h; exact own_two W x y t
def SpansAt (w : World) (a : Option Addr) (l : List (Nat × Nat)) : Prop :=
  ∀ i (h : i < l.length), ∃ b off, a = some ⟨b, off, none⟩ ∧ b < w.heap.size ∧ w.cell? ⟨b, off + i * 2, none⟩ = some (.int .i64 ((l[i]'h).1 : Nat)) ∧ w.cell? ⟨b, off + i * 2 + 1, none⟩ = some (.int .i64 ((l[i]'h).2 : Nat))
theorem spanCells_get (l : List (Nat × Nat)) (i : Nat) (h : i < l.length) : (spanCells l)[i * 2]? = some (.int .i64 (l[i].1 : Nat)) ∧ (spanCells l)[i * 2 + 1]? = some (.int .i64 (l[i].2 : Nat)) := by
  induction l generalizing i with
  | nil => simp at h
  | cons x l ih =>
    have e : spanCells (x :: l) = .int .i64 x.1 :: .int .i64 x.2 :: spanCells l := by simp [spanCells]
    rw [e]
    cases i with
    | zero => exact ⟨rfl, rfl⟩
    | succ i =>
      have := ih i (by simpa using h)
      rw [show (i + 1) * 2 = i * 2 + 1 + 1 by omega]
      simpa using this
theorem spans_own {w : World} {ao : Option Addr} {n cap : Nat} {l : List (Nat × Nat)} (h : w.ownsRow 0 31 2 (.slice ao n cap) l.length (spanCells l)) : SpansAt w ao l := fun i hi => by
  rcases h.2 with ⟨h1, h2⟩ | ⟨g, cap', cur, h1, h2⟩
  · omega
  · injection h1 with e1 e2 e3
    subst e1
    subst e2
    have hc := h.cells (g := g) rfl
    have hlt : g < w.heap.size := own_lt h (b := g) rfl
    have key : ∀ j u, (spanCells l)[j]? = some u → w.cell? ⟨g, j, none⟩ = some u := fun j u hu => by
      have := hc j u hu
      have ea : (Addr.add ⟨g, 0, none⟩ j) = ⟨g, j, none⟩ := by
        unfold Addr.add; by_cases hz : j = 0 <;> simp [hz]
      rwa [ea] at this
    obtain ⟨h3, h4⟩ := spanCells_get l i hi
    exact ⟨g, 0, rfl, hlt, by simpa using key _ _ h3, by simpa using key _ _ h4⟩
set_option maxRecDepth 100000 in
set_option maxHeartbeats 1000000 in
theorem same_any (a b : Option Addr) (len capa capb : Nat) (hlen : len ≤ 1000000000) (l : List (Nat × Nat)) (hll : Hid (l.length = len)) (w : World) (h1 : SpansAt w a l) (h2 : SpansAt w b l) :
    Calls Try.prog 23 #[.slice a len capa, .slice b len capb] w fun e w' => e = .returned (.bool true) ∧ ∃ z, w' = w.drewN z := by
  have H1 := hid h1
  have H2 := hid h2
  clear h1 h2
  go_enter Try.func23, Try.ntmps23
  go_wp2
  go_loopw [5] (fun i wr => ∃ j : Nat, j ≤ len ∧ i = .int .i64 j ∧ ∃ z, wr = w.drewN z) (fun i _ => len - (intOf i).toNat)
  case atStart => exact ⟨0, Nat.zero_le _, rfl, 0, rfl⟩
  case round =>
    obtain ⟨j, hj, rfl, z, hz⟩ := hrel
    have HZ := hid hz
    by_cases hlt : j < len
    · have hjl : j < l.length := by rw [hll.out]; exact hlt
      obtain ⟨b1, off1, rfl, _, c0, c1⟩ := H1.out j hjl
      obtain ⟨b2, off2, rfl, _, k0, k1⟩ := H2.out j hjl
      have c0 := (show (w.drewN z).cell? ⟨b1, off1 + j * 2, none⟩ = some (.int .i64 (l[j].1 : Nat)) by simpa using c0)
      have c1 := (show (w.drewN z).cell? ⟨b1, off1 + j * 2 + 1, none⟩ = some (.int .i64 (l[j].2 : Nat)) by simpa using c1)
      have k0 := (show (w.drewN z).cell? ⟨b2, off2 + j * 2, none⟩ = some (.int .i64 (l[j].1 : Nat)) by simpa using k0)
      have k1 := (show (w.drewN z).cell? ⟨b2, off2 + j * 2 + 1, none⟩ = some (.int .i64 (l[j].2 : Nat)) by simpa using k1)
      rw [← hz] at c0 c1 k0 k1
      clear hz
      generalize l[j].1 = x at *
      generalize l[j].2 = y at *
      go_wp2_with fail
      go_quiet (fail)
      go_wp2
      go_roundw
      case rel => exact ⟨j + 1, by omega, by go_num, z + nq, by rw [HZ.out]; simp⟩
      case measure => simp [intOf]; omega
    · clear hz
      go_wp2
      go_returns
      exact ⟨rfl, z, HZ.out⟩
theorem spanCells_len (l : List (Nat × Nat)) : (spanCells l).length = l.length * 2 := by
  induction l with
  | nil => rfl
  | cons x l ih =>
    have e : spanCells (x :: l) = [.int .i64 x.1, .int .i64 x.2] ++ spanCells l := by simp [spanCells]
    rw [e, List.length_append, ih, List.length_cons]
    simp only [List.length_cons, List.length_nil]
    omega
end Go.Proofs.Ytemgdnloabefjaa

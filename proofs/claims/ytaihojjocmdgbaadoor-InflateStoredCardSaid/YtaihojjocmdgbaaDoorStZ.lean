import Derived.Test.YtaihojjocmdgbaaDoorBase
import Derived.Test.YtaihojjocmdgbaaDoorBitM
import Derived.Test.YtaihojjocmdgbaaDoorKeep
import Derived.Maps.AppendAt
import Derived.Test.YtaihojjocmdgbaaDoorAppS
import Derived.Test.YtaihojjocmdgbaaDoorBitR
import Derived.Laws.BytesArg
import Derived.StillTailTactics
/- Plain facts on blocks of bytes, and on the bytes of a number (no program in them). -/
namespace Go.Proofs.YtaihojjocmdgbaaDoor
open Go.RowKit

/-- d bytes, byte j being f j. -/
def fill (d : Nat) (f : Nat → Int) : Array Value := ((List.range d).map fun j => Value.int .u8 (f j)).toArray
def strOf (d : Nat) (f : Nat → Int) : List UInt8 := (List.range d).map fun j => UInt8.ofNat (f j).toNat
theorem strOf_len (d : Nat) (f : Nat → Int) : (strOf d f).length = d := by simp [strOf]
theorem fill_congr {d : Nat} {f g : Nat → Int} (h : ∀ j, j < d → f j = g j) : fill d f = fill d g := by
  unfold fill
  congr 1
  apply List.map_congr_left
  intro j hj
  rw [h j (List.mem_range.1 hj)]
theorem strOf_congr {d : Nat} {f g : Nat → Int} (h : ∀ j, j < d → f j = g j) : strOf d f = strOf d g := by
  unfold strOf
  apply List.map_congr_left
  intro j hj
  rw [h j (List.mem_range.1 hj)]
theorem fill_get (d : Nat) (f : Nat → Int) (k : Nat) (h : k < d) : (fill d f)[k]? = some (.int .u8 (f k)) := by
  simp [fill, h]
theorem fill_zero (d : Nat) : madeCells #[Value.int .u8 0] d = fill d fun _ => 0 := by
  apply Array.ext
  · simp [madeCells, fill]
  · intro i h1 h2
    simp [madeCells, fill, Nat.mod_one]
theorem fill_set (d : Nat) (f : Nat → Int) (k : Nat) (v : Int) : (fill d f).setIfInBounds k (.int .u8 v) = fill d fun j => if j = k then v else f j := by
  apply Array.ext
  · simp [fill]
  · intro i h1 h2
    simp only [fill, Array.size_setIfInBounds, List.size_toArray, List.length_map, List.length_range] at h1 h2
    simp only [fill, List.getElem_toArray, List.getElem_map, List.getElem_range]
    by_cases e : k = i
    · subst e; simp
    · simp [e, Ne.symm e]

theorem conv_fill {P : Program} (w : World) (src dst e : TypeId) (hs : P.underlying src = some (.slice e)) (he : P.underlying e = some (.int .u8)) (hd : P.underlying dst = some .string)
    {g t d c : Nat} {f : Nat → Int} (h : Has w g t (fill d f)) (hf : ∀ j, j < d → 0 ≤ f j ∧ f j < 256) :
    (convert src dst (.slice (some ⟨g, 0, none⟩) d c)).run P w = .ok (.string ⟨(strOf d f).toArray⟩) w := by
  have hl := strOf_len d f
  have := run_convert_bytes_back (P := P) w src dst e ⟨g, 0, none⟩ c (strOf d f) hs he hd (fun j hj => by
    have hj' : j < d := by rw [hl] at hj; exact hj
    have e0 : (Addr.add ⟨g, 0, none⟩ j) = ⟨g, j, none⟩ := by unfold Addr.add; split <;> simp_all
    rw [e0, h.cell, fill_get d f j hj']
    have hb := hf j hj'
    simp [strOf]
    omega)
  rw [hl] at this
  exact this

end Go.Proofs.YtaihojjocmdgbaaDoor
/- Plain facts on bits that are written: as bytes, and one by one. No program in them. -/
namespace Go.Proofs.YtaihojjocmdgbaaDoor
open Go.RowKit
set_option linter.unusedVariables false

/-- What stands above the d lowest bytes. -/
def hiN (N d : Nat) : Nat := N / 2 ^ (8 * d)
/-- The first d bytes of a number, the lowest one first. -/
def byteCells (N d : Nat) : List Value := (List.range d).map fun j => Value.int .u8 ((hiN N j % 256 : Nat) : Int)
theorem byteCells_len (N d : Nat) : (byteCells N d).length = d := by simp [byteCells]
theorem byteCells_succ (N d : Nat) : byteCells N (d + 1) = byteCells N d ++ [Value.int .u8 ((hiN N d % 256 : Nat) : Int)] := by
  simp [byteCells, List.range_succ]
theorem byte_cong {N M d j : Nat} (h : N % 2 ^ (8 * d) = M % 2 ^ (8 * d)) (hj : j < d) : hiN N j % 256 = hiN M j % 256 := by
  unfold hiN
  have e1 := mdm N (8 * d) (8 * j) 8 (by omega)
  have e2 := mdm M (8 * d) (8 * j) 8 (by omega)
  rw [h] at e1
  exact e1.symm.trans e2
theorem byteCells_cong {N M d : Nat} (h : N % 2 ^ (8 * d) = M % 2 ^ (8 * d)) : byteCells N d = byteCells M d := by
  unfold byteCells
  apply List.map_congr_left
  intro j hj
  rw [byte_cong h (List.mem_range.1 hj)]
/-- One more number is laid on top. -/
theorem lay_cong (N v k d : Nat) (h : 8 * d ≤ k) : (N + v * 2 ^ k) % 2 ^ (8 * d) = N % 2 ^ (8 * d) := by
  have e : v * 2 ^ k = 2 ^ (8 * d) * (2 ^ (k - 8 * d) * v) := by
    rw [← Nat.mul_assoc, ← Nat.pow_add, show 8 * d + (k - 8 * d) = k by omega, Nat.mul_comm]
  rw [e, Nat.add_mul_mod_self_left]
theorem lay_lt {N v k n : Nat} (h : N < 2 ^ k) (hv : v < 2 ^ n) : N + v * 2 ^ k < 2 ^ (k + n) := by
  have : (v + 1) * 2 ^ k ≤ 2 ^ n * 2 ^ k := Nat.mul_le_mul_right _ hv
  rw [Nat.add_mul, Nat.one_mul] at this
  rw [Nat.pow_add, Nat.mul_comm (2 ^ k)]
  omega
theorem lay_open (N v k : Nat) : (N + v * 2 ^ k) / 2 ^ (8 * (k / 8)) = N / 2 ^ (8 * (k / 8)) + v * 2 ^ (k % 8) := by
  have e : v * 2 ^ k = (v * 2 ^ (k % 8)) * 2 ^ (8 * (k / 8)) := by
    rw [Nat.mul_assoc, ← Nat.pow_add, show k % 8 + 8 * (k / 8) = k by omega]
  rw [e, Nat.add_mul_div_right _ _ (Nat.two_pow_pos _)]
theorem div_lt_pow {N a b : Nat} (h : N < 2 ^ (a + b)) : N / 2 ^ a < 2 ^ b := by
  rw [Nat.div_lt_iff_lt_mul (Nat.two_pow_pos a), Nat.mul_comm, ← Nat.pow_add]; exact h
theorem open_lt {N k : Nat} (h : N < 2 ^ k) : N / 2 ^ (8 * (k / 8)) < 2 ^ (k % 8) := div_lt_pow (by rw [show 8 * (k / 8) + k % 8 = k by omega]; exact h)
theorem pow_le_128 {r : Nat} (h : r < 8) : 2 ^ r ≤ 128 := Nat.le_trans (Nat.pow_le_pow_right (by decide) (show r ≤ 7 by omega)) (by decide)
theorem last_lt {N k : Nat} (h : N < 2 ^ k) : hiN N (k / 8) < 128 := Nat.lt_of_lt_of_le (open_lt h) (pow_le_128 (Nat.mod_lt _ (by decide)))
/-- The last byte, and one more number above it. -/
theorem or_open (N v k : Nat) (h : N < 2 ^ k) : N / 2 ^ (8 * (k / 8)) ||| v * 2 ^ (k % 8) = (N + v * 2 ^ k) / 2 ^ (8 * (k / 8)) := by
  rw [lay_open, Nat.or_comm, nat_join (k % 8) _ _ (Nat.mul_mod_left _ _) (open_lt h), Nat.add_comm]
theorem or64w (N v k : Nat) (h : N < 2 ^ k) (hv : v < 4294967296) :
    bits BinOp.or IntKind.u64 ((hiN N (k / 8) : Nat) : Int) (IntKind.u64.wrap ((v : Int) * 2 ^ (k % 8))) = ((hiN (N + v * 2 ^ k) (k / 8) : Nat) : Int) := by
  have hll := last_lt h
  unfold hiN at hll ⊢
  have hp := pow_le_128 (Nat.mod_lt k (show 0 < 8 by decide))
  have h1 : v * 2 ^ (k % 8) ≤ 4294967296 * 128 := Nat.mul_le_mul (by omega) hp
  have e1 : IntKind.u64.wrap ((v : Int) * 2 ^ (k % 8)) = ((v * 2 ^ (k % 8) : Nat) : Int) := by
    rw [IntKind.wrap_u64]
    have : ((v : Int) * 2 ^ (k % 8)) = ((v * 2 ^ (k % 8) : Nat) : Int) := by simp
    rw [this]; omega
  rw [e1, u64_or_nat _ _ (by omega) (by omega), or_open N v k h]
theorem div_step (N d : Nat) : hiN N d / 256 = hiN N (d + 1) := by
  unfold hiN
  rw [Nat.div_div_eq_div_mul, show (256 : Nat) = 2 ^ 8 from rfl, ← Nat.pow_add, Nat.mul_add]
/-- Bits one by one. -/
def bitCells (N k : Nat) : List Value := (List.range k).map fun i => Value.int .u8 ((N / 2 ^ i % 2 : Nat) : Int)
theorem bitCells_len (N k : Nat) : (bitCells N k).length = k := by simp [bitCells]
theorem bitCells_succ (N k : Nat) : bitCells N (k + 1) = bitCells N k ++ [Value.int .u8 ((N / 2 ^ k % 2 : Nat) : Int)] := by simp [bitCells, List.range_succ]
theorem bitCells_get (N k i : Nat) (h : i < k) : (bitCells N k)[i]? = some (Value.int .u8 ((N / 2 ^ i % 2 : Nat) : Int)) := by simp [bitCells, h]
theorem bitCells_cong {N M k : Nat} (h : N % 2 ^ k = M % 2 ^ k) : bitCells N k = bitCells M k := by
  unfold bitCells
  apply List.map_congr_left
  intro j hj
  have hj := List.mem_range.1 hj
  have e1 := mdm N k j 1 (by omega)
  have e2 := mdm M k j 1 (by omega)
  rw [h] at e1
  have e3 : N / 2 ^ j % 2 = M / 2 ^ j % 2 := e1.symm.trans e2
  rw [e3]
end Go.Proofs.YtaihojjocmdgbaaDoor
/- Facts of rows and numbers that the document's writer wants, in a seat without the program's writer. No program in them. -/
namespace Go.Proofs.YtaihojjocmdgbaaDoor
open Go.RowKit
set_option linter.unusedVariables false
theorem Keeps.own {F : Nat → Prop} {w w' : World} (h : Keeps F w w') {e : TypeId} {size n : Nat} {v : Value} {xs : List Value} (k : w.ownsRow 0 e size v n xs) (hF : ∀ b, v.ownBlock = some b → ¬ F b) : w'.ownsRow 0 e size v n xs :=
  own_keep k fun b hb => h.block b (own_lt k hb) (hF b hb)
theorem Keeps.grown {F : Nat → Prop} {a w w' : World} (h : Keeps F a w) {row : Option Nat} (hg : w.grownBy w' row) (hr : ∀ b, row = some b → F b) : Keeps F a w' :=
  ⟨hg.os.trans h.os, hg.tape.trans h.tape, hg.output.trans h.output, Nat.le_trans h.size hg.size, fun i hi hn => (hg.block i (Nat.lt_of_lt_of_le hi h.size) (fun e => hn (hr i e.symm))).trans (h.block i hi hn)⟩
theorem grow_keeps {F F' : Nat → Prop} {w W w5 : World} {o : Obj} {row : Option Nat} (hK : Keeps F w W) (hF : ∀ i, F' i → F i ∨ w.heap.size ≤ i) (hg : (W.alloc o).grownBy w5 row) (hr : ∀ b, row = some b → F' b) : Keeps F w w5 := by
  have hs := hK.size
  refine ⟨hg.os.trans hK.os, hg.tape.trans hK.tape, hg.output.trans hK.output, Nat.le_trans hs (Nat.le_trans (by simp) hg.size), fun i hi hn => ?_⟩
  refine (hg.block i (by simp; omega) (fun e => ?_)).trans ((Below.heap_alloc W o i (by omega)).trans (hK.block i hi hn))
  rcases hF i (hr i e.symm) with h | h
  · exact hn h
  · omega
theorem leN_zero_of {N k : Nat} (h : N < 2 ^ k) (d : Nat) (hd : k ≤ 8 * d) : hiN N d = 0 := Nat.div_eq_of_lt (Nat.lt_of_lt_of_le h (Nat.pow_le_pow_right (by decide) hd))
def strN (N d : Nat) : ByteArray := ⟨((List.range d).map fun j => UInt8.ofNat (hiN N j % 256)).toArray⟩
theorem strN_size (N d : Nat) : (strN N d).size = d := by simp [strN, ByteArray.size]
theorem strN_succ (N d : Nat) : strN N (d + 1) = strN N d ++ ⟨#[UInt8.ofNat (hiN N d % 256)]⟩ := by
  show (⟨_⟩ : ByteArray) = _
  rw [List.range_succ, List.map_append]
  simp [strN]
  rfl
theorem own_cell {w : World} {e : TypeId} {n : Nat} {a : Addr} {cap : Nat} {xs : List Value} (h : w.ownsRow 0 e 1 (.slice (some a) n cap) n xs) {j : Nat} {u : Value} (hj : xs[j]? = some u) : w.cell? (a.add j) = some u := by
  rcases h.2 with ⟨h0, _⟩ | ⟨g, cap', cur, h0, _⟩
  · cases h0
  · have : a = ⟨g, 0, none⟩ := by injection h0 with h1; injection h1
    subst this
    exact h.cells (g := g) rfl j u hj
/-- May it be put? -/
def putB (v : Nat) (n : Int) : Bool := cntB n && decide (v < 2 ^ n.toNat)
def putE (v : Nat) (n : Int) : Int := if putB v n then 0 else 1
def putK (k v : Nat) (n : Int) : Nat := if putB v n then k + n.toNat else k
def putN (N k v : Nat) (n : Int) : Nat := if putB v n then N + v * 2 ^ k else N
end Go.Proofs.YtaihojjocmdgbaaDoor
/- What the document's writer returns, and what it leaves: its bits, one by one (contracts of the functions). -/
namespace Go.Proofs.YtaihojjocmdgbaaDoor
open Go.RowKit
set_option linter.unusedVariables false

/-- The document's writer in memory. -/
structure ZrB (w : World) (g : Nat) (dv : Value) (k : Nat) (xs : List Value) : Prop where
  blk : Has w g 32 #[dv]
  row : w.ownsRow 0 5 1 dv k xs
theorem ZrB.ne {w : World} {g k : Nat} {dv : Value} {xs : List Value} (h : ZrB w g dv k xs) : dv.ownBlock ≠ some g := own_ne_has h.row h.blk (by decide)
theorem ZrB.keep {w w' : World} {g k : Nat} {dv : Value} {xs : List Value} (h : ZrB w g dv k xs) {F : Nat → Prop} (hk : Keeps F w w') (hg : ¬ F g) (hd : ∀ b, dv.ownBlock = some b → ¬ F b) : ZrB w' g dv k xs :=
  ⟨hk.has h.blk hg, hk.own h.row hd⟩
def ZrF (F : Nat → Prop) (w : World) (g k N : Nat) : Prop :=
  ∃ dv, F g ∧ (∀ b, dv.ownBlock = some b → F b) ∧ ZrB w g dv k (bitCells N k) ∧ N < 2 ^ k ∧ ∀ i, F i → i < w.heap.size
def ZPost (F : Nat → Prop) (g k N : Nat) (w w' : World) : Prop := ∃ F', ZrF F' w' g k N ∧ Keeps F w w' ∧ ∀ i, F' i → F i ∨ w.heap.size ≤ i
theorem ZrF.keep {F G : Nat → Prop} {w w' : World} {g k N : Nat} (h : ZrF F w g k N) (hk : Keeps G w w') (hd : ∀ i, F i → ¬ G i) : ZrF F w' g k N := by
  obtain ⟨dv, h1, h2, h3, h4, h5⟩ := h
  exact ⟨dv, h1, h2, h3.keep hk (hd _ h1) (fun b hb => hd _ (h2 b hb)), h4, fun i hi => Nat.lt_of_lt_of_le (h5 i hi) hk.size⟩
theorem ZPost.refl {F : Nat → Prop} {w : World} {g k N : Nat} (h : ZrF F w g k N) : ZPost F g k N w w := ⟨F, h, Keeps.refl _ _, fun i hi => .inl hi⟩
theorem ZrF.fresh {w : World} {g : Nat} (h : Has w g 32 #[.slice none 0 0]) : ZrF (· = g) w g 0 0 :=
  ⟨.slice none 0 0, rfl, fun b hb => by simp [Value.ownBlock] at hb, ⟨h, rfl, .inl ⟨rfl, rfl⟩⟩, by simp, fun i hi => by rw [hi]; exact h.lt⟩
theorem ZrF.lt {F : Nat → Prop} {w : World} {g k N : Nat} (h : ZrF F w g k N) : N < 2 ^ k := h.choose_spec.2.2.2.1
/-- One bit behind the others: what is left once its byte was appended and the slice was stored. -/
theorem z_push {F F' : Nat → Prop} {w W4 w5 : World} {g j M : Nat} {ao ao2 : Option Addr} {cap cap2 : Nat} {o : Obj} (hB : ZrB W4 g (.slice ao j cap) j (bitCells M j)) (hg : F' g) (hd : ∀ b, (Value.slice ao j cap).ownBlock = some b → F' b) (hK : Keeps F w W4) (hFF : ∀ i, F' i → F i ∨ w.heap.size ≤ i) (hFl : ∀ i, F' i → i < W4.heap.size)
    (hG : (W4.alloc o).grownBy w5 (Value.slice ao j cap).ownBlock) (hO : w5.ownsRow 0 5 1 (.slice ao2 (j + 1) cap2) (j + 1) (bitCells M (j + 1))) (hL : (Value.slice ao2 (j + 1) cap2).ownBlock = (Value.slice ao j cap).ownBlock ∨ (Value.slice ao2 (j + 1) cap2).ownBlock = some (W4.alloc o).heap.size) :
    ∃ F2 : Nat → Prop, ZrB (w5.setCell ⟨g, 0, none⟩ (.slice ao2 (j + 1) cap2)) g (.slice ao2 (j + 1) cap2) (j + 1) (bitCells M (j + 1)) ∧ F2 g ∧ (∀ b, (Value.slice ao2 (j + 1) cap2).ownBlock = some b → F2 b) ∧ Keeps F w (w5.setCell ⟨g, 0, none⟩ (.slice ao2 (j + 1) cap2)) ∧ (∀ i, F2 i → F i ∨ w.heap.size ≤ i) ∧ ∀ i, F2 i → i < (w5.setCell ⟨g, 0, none⟩ (.slice ao2 (j + 1) cap2)).heap.size := by
  have hH5 : Has w5 g 32 #[.slice ao j cap] := (hG.block g (by have := hB.blk.lt; simp; omega) (fun e => hB.ne e.symm)).trans (hB.blk.alloc _)
  have hne : (Value.slice ao2 (j + 1) cap2).ownBlock ≠ some g := own_ne_has hO hH5 (by decide)
  have hz := hG.size
  have ha : (W4.alloc o).heap.size = W4.heap.size + 1 := by simp
  rw [ha] at hz
  have hzK := hK.size
  have hK5 : Keeps F w w5 := grow_keeps hK hFF hG hd
  refine ⟨fun i => F' i ∨ (w.heap.size ≤ i ∧ i < w5.heap.size), ⟨by simpa using hH5.put 0 (.slice ao2 (j + 1) cap2), own_keep hO (fun b hb => Below.heap_setCell w5 ⟨g, 0, none⟩ _ b (fun e => hne (by rw [hb, e])))⟩, .inl hg, fun b hb => ?_, hK5.setCell (p := ⟨g, 0, none⟩) (hFF g hg) _, fun i h => ?_, fun i h => ?_⟩
  · rcases hL with h | h
    · exact .inl (hd b (by rw [← h]; exact hb))
    · right
      have e : (W4.alloc o).heap.size = b := by rw [h] at hb; exact Option.some.inj hb
      rw [ha] at e
      exact ⟨by omega, own_lt hO hb⟩
  · rcases h with h | h
    · exact hFF i h
    · exact .inr h.1
  · rcases h with h | h
    · have := hFl i h; simp [World.setCell]; omega
    · simpa [World.setCell] using h.2
theorem bit_lay {N v k : Nat} (h : N < 2 ^ k) (j : Nat) : (N + v * 2 ^ k) / 2 ^ (k + j) % 2 = v / 2 ^ j % 2 := by
  rw [Nat.pow_add, ← Nat.div_div_eq_div_mul, Nat.add_mul_div_right _ _ (Nat.two_pow_pos _), Nat.div_eq_of_lt h, Nat.zero_add]
/-- A number without its j lowest bits. -/
def shN (v j : Nat) : Nat := v / 2 ^ j
theorem shN_succ (v j : Nat) : shN v (j + 1) = shN v j / 2 := by unfold shN; rw [Nat.pow_succ, Nat.div_div_eq_div_mul]
theorem shN_le (v j : Nat) : shN v j ≤ v := Nat.div_le_self _ _
theorem bitCells_lay (N v k : Nat) : bitCells N k = bitCells (N + v * 2 ^ k) k := bitCells_cong (by rw [Nat.add_mul_mod_self_right])
set_option maxRecDepth 100000 in
set_option maxHeartbeats 2000000 in
theorem zput_ok (F : Nat → Prop) (g k N : Nat) (hk : k ≤ 1000000000) (v : Nat) (hv32 : v < 4294967296) (n : Nat) (hn : n ≤ 32) (hv : v < 2 ^ n) (w : World) (h : ZrF F w g k N) :
    Calls Tryd.prog 12 #[.pointer (some ⟨g, 0, none⟩), .int .u32 v, .int .i64 n] w fun e w' => e = .returned (.int .i64 0) ∧ ZPost F g (k + n) (N + v * 2 ^ k) w w' := by
  obtain ⟨i0, hi, hz0, hz1, hz2⟩ := info_parts byteInfo
  obtain ⟨dv, hFg, hFd, hB, hN, hlt⟩ := h
  rw [bitCells_lay N v k] at hB
  have hNN := lay_lt hN hv
  have hbit := fun j => bit_lay (v := v) hN j
  generalize hM : N + v * 2 ^ k = M at *
  have t0 : n < 32 → decide ((2 : Int) ^ n % 4294967296 ≤ v) = false := fun h => by
    have hp : 2 ^ n ≤ 2 ^ 31 := Nat.pow_le_pow_right (by decide) (by omega)
    have e : ((2 : Int) ^ n) = ((2 ^ n : Nat) : Int) := by simp
    rw [e]; simp only [decide_eq_false_iff_not]; omega
  have tn : decide ((n : Int) < 0) = false := by simp
  have tm : decide ((32 : Int) < n) = false := by simp; omega
  have HB := hid hB
  have HN := hid hNN
  have HBIT := hid hbit
  have HFd := hid hFd
  have Hlt := hid hlt
  have H0 := hid t0
  clear hM hbit hFd hlt hN hNN hB hv t0
  have hor : (decide ((n : Int) < 32) = true ∧ decide ((2 : Int) ^ n % 4294967296 ≤ v) = false) ∨ decide ((n : Int) < 32) = false := by
    by_cases h : n < 32
    · exact .inl ⟨by simp; omega, H0.out h⟩
    · exact .inr (by simp; omega)
  rcases hor with ⟨t1, t2⟩ | t1
  all_goals
    go_enter Tryd.func12, Tryd.ntmps12
    go_wp2
    go_loopw [1, 7] (fun x i wr => ∃ j : Nat, ∃ dv' : Value, ∃ F' : Nat → Prop, j ≤ n ∧ i = .int .i64 j ∧ x = .int .u32 (shN v j : Nat) ∧ ZrB wr g dv' (k + j) (bitCells M (k + j)) ∧ F' g ∧ (∀ b, dv'.ownBlock = some b → F' b) ∧ Keeps F w wr ∧ (∀ i, F' i → F i ∨ w.heap.size ≤ i) ∧ ∀ i, F' i → i < wr.heap.size) (fun _ i _ => n - (intOf i).toNat)
    case atStart => exact ⟨0, dv, F, Nat.zero_le _, rfl, by simp [shN], HB.out, hFg, HFd.out, Keeps.refl _ _, fun i h => .inl h, Hlt.out⟩
    case round =>
      obtain ⟨j, dv', F', hj, rfl, rfl, hB', hF'g, hF'd, hK', hF'F, hF'l⟩ := hrel
      obtain ⟨ao, cap, rfl⟩ := own_slice hB'.row
      have HB' := hid hB'
      have HFd' := hid hF'd
      have HFF' := hid hF'F
      have HFl' := hid hF'l
      have HK' := hid hK'
      have d1 := HB'.out.blk.cell 0
      have hsh := shN_le v j
      by_cases hlt : j < n
      · have HS := hid (shN_succ v j)
        obtain ⟨kj, hkj⟩ : ∃ kj, k + j = kj := ⟨_, rfl⟩
        have HKJ := hid hkj
        have hb2 : shN v j % 2 = M / 2 ^ kj % 2 := by rw [← hkj, HBIT.out j]; rfl
        have HB2 := hid hb2
        rw [hkj] at HB' d1 HFd'
        clear hkj hb2 hB' hF'd hF'F hF'l hK'
        have e0 : wr.cell? ⟨g, 0, none⟩ = some (.slice ao kj cap) := d1
        clear d1
        have hkj9 : kj ≤ 1000000032 := by have := HKJ.out; omega
        have hsv : shN v j < 4294967296 := by omega
        clear hsh
        go_wp2_with (at_builtin; refine wpList_append_own_at _ rfl (.tmp 34) (.tmp 38) 30 rfl 0 5 i0 (.int .u8 0) 1 1 Tryd.underlying30 hi hz0 hz1 hz2 rfl (by decide) (.slice ao kj cap) kj (bitCells M kj) rfl (own_keep HB'.out.row (fun b hb => Below.heap_alloc _ _ _ (own_lt HB'.out.row hb))) ⟨wr.heap.size, 0, none⟩ 1 1 [_] rfl rfl (cell_one_new _ _ _) (by intro u hu; simp at hu; rw [hu]; rfl) (by unfold maxLen; omega) (by omega) (Nat.zero_le _) ?_; intro rd' w5 hown5 hgrow5 _ hblk5; obtain ⟨ao2, cap2, rfl⟩ := own_slice hown5; have hrow5 : w5.ownsRow 0 5 1 (.slice ao2 (kj + 1) cap2) (kj + 1) (bitCells M (kj + 1)) := (by rw [bitCells_succ, ← HB2.out]; simpa using hown5); have hH5 : Has w5 g 32 #[.slice ao kj cap] := (hgrow5.block g (by have := HB'.out.blk.lt; simp; omega) (fun e => HB'.out.ne e.symm)).trans (HB'.out.blk.alloc _); have y5 : w5.cell? ⟨g, 0, none⟩ = some (.slice ao kj cap) := hH5.cell 0; have z5 := hH5.frozen 0; have HP := hid (z_push HB'.out hF'g HFd'.out HK'.out HFF'.out HFl'.out hgrow5 hrow5 hblk5); clear hown5 hgrow5 hblk5 hrow5 hH5 e0)
        go_roundw
        case rel =>
          obtain ⟨F2, p1, p2, p3, p4, p5, p6⟩ := HP.out
          refine ⟨j + 1, .slice ao2 (kj + 1) cap2, F2, by omega, by go_num, by rw [HS.out]; simp, ?_, p2, p3, p4, p5, p6⟩
          rw [← Nat.add_assoc, HKJ.out]
          exact p1
        case measure => simp [intOf]; omega
      · obtain rfl : n = j := by omega
        go_wp2
        go_returns
        exact ⟨rfl, F', ⟨.slice ao (k + n) cap, hF'g, HFd'.out, HB'.out, HN.out, HFl'.out⟩, HK'.out, HFF'.out⟩
set_option maxHeartbeats 400000 in
theorem zput_bad (g v : Nat) (hv32 : v < 4294967296) (n : Int) (hp : putB v n = false) (w : World) :
    Calls Tryd.prog 12 #[.pointer (some ⟨g, 0, none⟩), .int .u32 v, .int .i64 n] w fun e w' => e = .returned (.int .i64 1) ∧ w = w' := by
  by_cases hn : n < 0
  · clear hp
    go_enter Tryd.func12, Tryd.ntmps12
    go_wp2
    go_returns
    exact ⟨rfl, rfl⟩
  · by_cases hm : 32 < n
    · clear hp
      go_enter Tryd.func12, Tryd.ntmps12
      go_wp2
      go_returns
      exact ⟨rfl, rfl⟩
    · obtain ⟨m, rfl⟩ := Int.eq_ofNat_of_zero_le (show 0 ≤ n by omega)
      have hc : cntB (m : Int) = true := decide_eq_true ⟨by omega, by omega⟩
      have hv : ¬ v < 2 ^ m := by
        unfold putB at hp
        rw [hc, Bool.true_and] at hp
        simpa using of_decide_eq_false hp
      have h32 : m < 32 := by
        rcases Nat.lt_or_ge m 32 with h | h
        · exact h
        · obtain rfl : m = 32 := by omega
          exact absurd hv32 hv
      have t1 : decide ((m : Int) < 32) = true := by simp; omega
      have t2 : decide ((2 : Int) ^ m % 4294967296 ≤ v) = true := by
        have hp3 := Nat.two_pow_pos m
        have hp2 : 2 ^ m ≤ 2 ^ 31 := Nat.pow_le_pow_right (by decide) (by omega)
        have e : ((2 : Int) ^ m) = ((2 ^ m : Nat) : Int) := by simp
        rw [e]; simp only [decide_eq_true_eq]; omega
      have tn : decide ((m : Int) < 0) = false := by simp
      have tm : decide ((32 : Int) < m) = false := by simp; omega
      clear hp hc hv hn hm
      go_enter Tryd.func12, Tryd.ntmps12
      go_wp2
      go_returns
      exact ⟨rfl, rfl⟩
def ZPutPost (F : Nat → Prop) (g k N v : Nat) (n : Int) (w : World) (e : Ending) (w' : World) : Prop := e = .returned (.int .i64 (putE v n)) ∧ ZPost F g (putK k v n) (putN N k v n) w w'
theorem zput_any (F : Nat → Prop) (g k N : Nat) (hk : k ≤ 1000000000) (v : Nat) (hv : v < 4294967296) (n : Int) (w : World) (h : ZrF F w g k N) :
    Calls Tryd.prog 12 #[.pointer (some ⟨g, 0, none⟩), .int .u32 v, .int .i64 n] w (ZPutPost F g k N v n w) := by
  unfold ZPutPost putE putK putN
  cases hp : putB v n with
  | false =>
    simp only [Bool.false_eq_true, if_false]
    refine (zput_bad g v hv n hp w).mono ?_
    rintro e w' ⟨rfl, rfl⟩
    exact ⟨rfl, ZPost.refl h⟩
  | true =>
    simp only [if_true]
    unfold putB at hp
    rw [Bool.and_eq_true] at hp
    obtain ⟨h0, h1⟩ := cntB_true hp.1
    obtain ⟨m, rfl⟩ := Int.eq_ofNat_of_zero_le h0
    exact zput_ok F g k N hk v hv m (by omega) (by simpa using hp.2) w h
end Go.Proofs.YtaihojjocmdgbaaDoor
/- What Align and Add of the document's writer leave (contracts of the functions). -/
namespace Go.Proofs.YtaihojjocmdgbaaDoor
open Go.RowKit
set_option linter.unusedVariables false

theorem bitCells_zero {N k j : Nat} (h : N < 2 ^ k) (hj : k ≤ j) : bitCells N (j + 1) = bitCells N j ++ [Value.int .u8 0] := by
  rw [bitCells_succ, Nat.div_eq_of_lt (Nat.lt_of_lt_of_le h (Nat.pow_le_pow_right (by decide) hj))]
  rfl
/-- How many elements a slice in a cell has. -/
def lenAt (w : World) (g : Nat) : Nat := match w.cell? ⟨g, 0, none⟩ with | some (.slice _ m _) => m | _ => 0
theorem lenAt_of {w : World} {g k : Nat} {ao : Option Addr} {cap : Nat} {xs : List Value} (h : ZrB w g (.slice ao k cap) k xs) : lenAt w g = k := by
  have := h.blk.cell 0
  simp at this
  simp [lenAt, this]
set_option maxRecDepth 100000 in
set_option maxHeartbeats 2000000 in
theorem zalign_any (F : Nat → Prop) (g k N : Nat) (hk : k ≤ 1000000000) (w : World) (h : ZrF F w g k N) :
    Calls Tryd.prog 13 #[.pointer (some ⟨g, 0, none⟩)] w fun e w' => e = .returned (.tuple #[]) ∧ ZPost F g (upK k) N w w' := by
  obtain ⟨i0, hi, hz0, hz1, hz2⟩ := info_parts byteInfo
  obtain ⟨dv, hFg, hFd, hB, hN, hlt⟩ := h
  have hu2 : k ≤ upK k := by unfold upK; omega
  have hu3 : upK k ≤ 1000000007 := by unfold upK; omega
  have HU : Hid (upK k = (k + 7) / 8 * 8) := hid rfl
  have HB := hid hB
  have HN := hid hN
  have HFd := hid hFd
  have Hlt := hid hlt
  clear hB hN hFd hlt
  generalize upK k = u at *
  go_enter Tryd.func13, Tryd.ntmps13
  go_wp2
  go_loopw [] (fun wr => ∃ j : Nat, ∃ dv' : Value, ∃ F' : Nat → Prop, k ≤ j ∧ j ≤ u ∧ ZrB wr g dv' j (bitCells N j) ∧ F' g ∧ (∀ b, dv'.ownBlock = some b → F' b) ∧ Keeps F w wr ∧ (∀ i, F' i → F i ∨ w.heap.size ≤ i) ∧ ∀ i, F' i → i < wr.heap.size) (fun wr => u - lenAt wr g)
  case atStart => exact ⟨k, dv, F, Nat.le_refl _, hu2, HB.out, hFg, HFd.out, Keeps.refl _ _, fun i h => .inl h, Hlt.out⟩
  case round =>
    rename_i wr
    obtain ⟨j, dv', F', hj1, hj2, hB', hF'g, hF'd, hK', hF'F, hF'l⟩ := hrel
    obtain ⟨ao, cap, rfl⟩ := own_slice hB'.row
    have HB' := hid hB'
    have HFd' := hid hF'd
    have HFF' := hid hF'F
    have HFl' := hid hF'l
    have HK' := hid hK'
    have e0 : wr.cell? ⟨g, 0, none⟩ = some (.slice ao j cap) := HB'.out.blk.cell 0
    clear hB' hF'd hF'F hF'l hK'
    by_cases hj : j % 8 = 0
    · have HJ : u = j := by have := HU.out; omega
      have e1 : ((j : Int) % 8 != 0) = false := by simp; omega
      have e2 : ((j : Int) % 8 == 0) = true := by simp; omega
      have HJ := hid HJ
      have hN2 : N < 2 ^ u := Nat.lt_of_lt_of_le HN.out (Nat.pow_le_pow_right (by decide) hu2)
      have HN2 := hid hN2
      clear hj hN2
      go_wp2
      go_returns
      refine ⟨rfl, F', ⟨.slice ao j cap, hF'g, HFd'.out, ?_, HN2.out, HFl'.out⟩, HK'.out, HFF'.out⟩
      rw [HJ.out]
      exact HB'.out
    · have HJ : j < u := by have := HU.out; omega
      have e1 : ((j : Int) % 8 != 0) = true := by simp; omega
      have e2 : ((j : Int) % 8 == 0) = false := by simp; omega
      have HZ := hid (bitCells_zero HN.out hj1)
      clear hj
      go_wp2_with (at_builtin; refine wpList_append_own_at _ rfl (.tmp 13) (.tmp 14) 30 rfl 0 5 i0 (.int .u8 0) 1 1 Tryd.underlying30 hi hz0 hz1 hz2 rfl (by decide) (.slice ao j cap) j (bitCells N j) rfl (own_keep HB'.out.row (fun b hb => Below.heap_alloc _ _ _ (own_lt HB'.out.row hb))) ⟨wr.heap.size, 0, none⟩ 1 1 [.int .u8 0] rfl rfl (cell_one_new _ _ _) (by intro u hu; simp at hu; rw [hu]; rfl) (by unfold maxLen; omega) (by omega) (Nat.zero_le _) ?_; intro rd' w5 hown5 hgrow5 _ hblk5; obtain ⟨ao2, cap2, rfl⟩ := own_slice hown5; have hrow5 : w5.ownsRow 0 5 1 (.slice ao2 (j + 1) cap2) (j + 1) (bitCells N (j + 1)) := (by rw [HZ.out]; exact hown5); have hH5 : Has w5 g 32 #[.slice ao j cap] := (hgrow5.block g (by have := HB'.out.blk.lt; simp; omega) (fun e => HB'.out.ne e.symm)).trans (HB'.out.blk.alloc _); have y5 : w5.cell? ⟨g, 0, none⟩ = some (.slice ao j cap) := hH5.cell 0; have z5 := hH5.frozen 0; have HP := hid (z_push HB'.out hF'g HFd'.out HK'.out HFF'.out HFl'.out hgrow5 hrow5 hblk5); clear hown5 hgrow5 hblk5 hrow5 hH5 e0)
      go_roundw
      case rel =>
        obtain ⟨F2, p1, p2, p3, p4, p5, p6⟩ := HP.out
        exact ⟨j + 1, .slice ao2 (j + 1) cap2, F2, by omega, by omega, p1, p2, p3, p4, p5, p6⟩
      case measure =>
        obtain ⟨F2, p1, _⟩ := HP.out
        rw [lenAt_of p1, lenAt_of HB'.out]
        omega
theorem leN_take (s : ByteArray) (i : Nat) (h : i < s.size) : leN (s.data.toList.take (i + 1)) = leN (s.data.toList.take i) + 2 ^ (8 * i) * s[i].toNat := by
  have e : s.data.toList.take (i + 1) = s.data.toList.take i ++ [s[i]] := by
    rw [List.take_succ_eq_append_getElem (by simpa using h)]; rfl
  rw [e, leN_append]
  simp only [List.length_take, leN, Nat.mul_zero, Nat.add_zero]
  rw [Nat.min_eq_left (by simp; omega)]
set_option maxRecDepth 100000 in
set_option maxHeartbeats 2000000 in
theorem zadd_any (F : Nat → Prop) (g k N : Nat) (s : ByteArray) (hk : k + 8 * s.size ≤ 900000000) (w : World) (h : ZrF F w g k N) :
    Calls Tryd.prog 14 #[.pointer (some ⟨g, 0, none⟩), .string s] w fun e w' => e = .returned (.tuple #[]) ∧ ZPost F g (upK k + 8 * s.size) (N + leN s.data.toList * 2 ^ upK k) w w' := by
  have hal := zalign_any F g k N (by omega) w h
  have hu3 : upK k ≤ k + 7 := by unfold upK; omega
  have HAL := hid hal
  clear hal h
  generalize upK k = u at *
  go_enter Tryd.func14, Tryd.ntmps14
  go_wp2_with fail
  refine HAL.out.mono ?_
  rintro e w1 ⟨rfl, F1, h1, hk1, hf1⟩
  have H1 := hid h1
  have HK1 := hid hk1
  have HF1 := hid hf1
  clear h1 hk1 hf1
  go_wp2
  go_loopw [4] (fun i wr => ∃ j : Nat, ∃ F' : Nat → Prop, j ≤ s.size ∧ i = .int .i64 j ∧ ZrF F' wr g (u + 8 * j) (N + leN (s.data.toList.take j) * 2 ^ u) ∧ Keeps F w wr ∧ ∀ i, F' i → F i ∨ w.heap.size ≤ i) (fun i _ => s.size - (intOf i).toNat)
  case atStart => exact ⟨0, F1, Nat.zero_le _, rfl, by simpa [leN] using H1.out, HK1.out, HF1.out⟩
  case round =>
    obtain ⟨j, F', hj, rfl, hZ, hK, hFF⟩ := hrel
    have HZ := hid hZ
    have HK := hid hK
    have HFF := hid hFF
    clear hZ hK hFF
    by_cases hlt : j < s.size
    · have hx : s[j].toNat < 256 := s[j].toNat_lt
      have hp := zput_ok F' g _ _ (by omega) s[j].toNat (by omega) 8 (by omega) (by omega) _ HZ.out
      have e1 : N + leN (s.data.toList.take j) * 2 ^ u + s[j].toNat * 2 ^ (u + 8 * j) = N + leN (s.data.toList.take (j + 1)) * 2 ^ u := by
        rw [leN_take s j hlt, Nat.add_mul, Nat.add_assoc, Nat.pow_add]
        congr 2
        rw [Nat.mul_comm (2 ^ (8 * j)), Nat.mul_assoc, Nat.mul_comm (2 ^ (8 * j))]
      rw [e1, show u + 8 * j + 8 = u + 8 * (j + 1) by omega] at hp
      have HP := hid hp
      clear hp e1
      go_wp2_with fail
      refine HP.out.mono ?_
      rintro e w2 ⟨rfl, F2, h2, hk2, hf2⟩
      have H2 := hid h2
      have HK2 := hid hk2
      have HF2 := hid hf2
      clear h2 hk2 hf2
      go_wp2
      go_roundw
      case rel =>
        refine ⟨j + 1, F2, by omega, by go_num, H2.out, ⟨HK2.out.os.trans HK.out.os, HK2.out.tape.trans HK.out.tape, HK2.out.output.trans HK.out.output, Nat.le_trans HK.out.size HK2.out.size, fun i hi hn => ?_⟩, fun i h => ?_⟩
        · refine (HK2.out.block i (Nat.lt_of_lt_of_le hi HK.out.size) (fun h => ?_)).trans (HK.out.block i hi hn)
          rcases HFF.out i h with h | h
          · exact hn h
          · omega
        · rcases HF2.out i h with h | h
          · exact HFF.out i h
          · have := HK.out.size; omega
      case measure => simp [intOf]; omega
    · obtain rfl : s.size = j := by omega
      have hZ2 := HZ.out
      rw [List.take_of_length_le (by simp)] at hZ2
      have HZ2 := hid hZ2
      clear hZ2
      go_wp2
      go_returns
      exact ⟨rfl, F', HZ2.out, HK.out, HFF.out⟩
end Go.Proofs.YtaihojjocmdgbaaDoor
/- What String of the document's writer returns (contracts of the functions). -/
namespace Go.Proofs.YtaihojjocmdgbaaDoor
open Go.RowKit
set_option linter.unusedVariables false

/-- Byte j of the first i bits. -/
def zf (N i j : Nat) : Int := ((hiN (N % 2 ^ i) j % 256 : Nat) : Int)
theorem mod_succ (N i : Nat) : N % 2 ^ (i + 1) = N % 2 ^ i + 2 ^ i * (N / 2 ^ i % 2) := mod_split N i 1
theorem zf_low (N i j : Nat) (h : 8 * (j + 1) ≤ i) : zf N (i + 1) j = zf N i j := by
  unfold zf
  rw [mod_succ]
  have e : (N % 2 ^ i + 2 ^ i * (N / 2 ^ i % 2)) % 2 ^ (8 * (j + 1)) = (N % 2 ^ i) % 2 ^ (8 * (j + 1)) := by
    rw [show 2 ^ i = 2 ^ (8 * (j + 1)) * 2 ^ (i - 8 * (j + 1)) by rw [← Nat.pow_add]; congr 1; omega, Nat.mul_assoc, Nat.add_mul_mod_self_left]
  rw [byte_cong e (Nat.lt_succ_self j)]
theorem zf_high (N i j : Nat) (h : i ≤ 8 * j) : zf N i j = 0 := by
  unfold zf
  rw [leN_zero_of (Nat.mod_lt N (Nat.two_pow_pos i)) j h]
  rfl
theorem zf_at (N i : Nat) : hiN (N % 2 ^ i) (i / 8) < 2 ^ (i % 8) := open_lt (Nat.mod_lt _ (Nat.two_pow_pos _))
theorem zf_next (N i : Nat) : zf N (i + 1) (i / 8) = zf N i (i / 8) + ((N / 2 ^ i % 2 * 2 ^ (i % 8) : Nat) : Int) ∧ 0 ≤ zf N i (i / 8) ∧ zf N i (i / 8) + ((N / 2 ^ i % 2 * 2 ^ (i % 8) : Nat) : Int) < 256 := by
  have h1 := zf_at N i
  have hp := pow_le_128 (Nat.mod_lt i (show 0 < 8 by decide))
  have h2 : hiN (N % 2 ^ (i + 1)) (i / 8) = hiN (N % 2 ^ i) (i / 8) + N / 2 ^ i % 2 * 2 ^ (i % 8) := by
    unfold hiN
    rw [mod_succ, Nat.mul_comm (2 ^ i), lay_open]
  have h3 : N / 2 ^ i % 2 * 2 ^ (i % 8) ≤ 2 ^ (i % 8) := by
    have : N / 2 ^ i % 2 ≤ 1 := by omega
    calc N / 2 ^ i % 2 * 2 ^ (i % 8) ≤ 1 * 2 ^ (i % 8) := Nat.mul_le_mul_right _ this
      _ = _ := Nat.one_mul _
  unfold zf
  rw [h2]
  omega
theorem zfill_step (N d i : Nat) : (fill d (zf N i)).setIfInBounds (i / 8) (.int .u8 (zf N (i + 1) (i / 8))) = fill d (zf N (i + 1)) := by
  rw [fill_set]
  refine fill_congr fun j hj => ?_
  by_cases e : j = i / 8
  · subst e; simp
  · rw [if_neg e]
    by_cases l : j < i / 8
    · exact (zf_low N i j (by omega)).symm
    · rw [zf_high N i j (by omega), zf_high N (i + 1) j (by omega)]
theorem zval (N i : Nat) : IntKind.u8.wrap (zf N i (i / 8) + IntKind.u8.wrap (((N / 2 ^ i % 2 : Nat) : Int) * 2 ^ (i % 8))) = zf N (i + 1) (i / 8) := by
  obtain ⟨h1, h2, h3⟩ := zf_next N i
  have e : (((N / 2 ^ i % 2 : Nat) : Int) * 2 ^ (i % 8)) = ((N / 2 ^ i % 2 * 2 ^ (i % 8) : Nat) : Int) := by simp
  rw [e, IntKind.wrap_u8', IntKind.wrap_u8', h1]
  omega
set_option maxRecDepth 100000 in
set_option maxHeartbeats 2000000 in
theorem zstr_any (F : Nat → Prop) (g k N : Nat) (hk : k ≤ 1000000000) (w : World) (h : ZrF F w g k N) :
    Calls Tryd.prog 15 #[.pointer (some ⟨g, 0, none⟩)] w fun e w' => e = .returned (.string (strN N ((k + 7) / 8))) ∧ Bw w w' := by
  obtain ⟨i0, hi, hz0, hz1, hz2⟩ := info_parts byteInfo
  obtain ⟨dv, hFg, hFd, hB, hN, hlt⟩ := h
  obtain ⟨ao, cap, rfl⟩ := own_slice hB.row
  obtain ⟨d, hd⟩ : ∃ d, (k + 7) / 8 = d := ⟨_, rfl⟩
  have hd2 : ((k : Int) + 7) / 8 = d := by omega
  have hd9 : d ≤ 1000000000 := by omega
  have hmk := fun (w : World) => run_make (P := Tryd.prog) w 30 5 i0 (.int .u8 0) Tryd.underlying30 hi hz0 .i64 .i64 (d : Int) (d : Int) (by omega) (by omega) (by rw [hz2]; omega) (by omega)
  rw [hd]
  have HD := hid hd
  have HB := hid hB
  have HN := hid hN
  have e0 : w.cell? ⟨g, 0, none⟩ = some (.slice ao k cap) := HB.out.blk.cell 0
  clear hd hB hN hFd hlt hFg
  go_enter Tryd.func15, Tryd.ntmps15
  go_wp2
  clear hmk hd2
  have hfz := fill_zero d
  go_loopw [4] (fun i wr => ∃ j : Nat, j ≤ k ∧ i = .int .i64 j ∧ Has wr w.heap.size 5 (fill d (zf N j)) ∧ Below w.heap.size w wr) (fun i _ => k - (intOf i).toNat)
  case atStart =>
    refine ⟨0, Nat.zero_le _, rfl, ?_, (Below.refl _ w).alloc (Nat.le_refl _) _⟩
    have e : fill d (zf N 0) = fill d fun _ => 0 := fill_congr fun j _ => zf_high N 0 j (by omega)
    rw [e, ← hfz]
    exact Has.new w _ _
  case round =>
    rename_i wr
    obtain ⟨j, hj, rfl, hO, hbel⟩ := hrel
    have HO := hid hO
    have HBE := hid hbel
    clear hO hbel hfz
    have hg0 := HB.out.blk.lt
    have d0 : wr.cell? ⟨g, 0, none⟩ = some (.slice ao k cap) := (World.cell?_of_block (HBE.out.block g hg0)).trans e0
    by_cases hlt : j < k
    · have hrow : wr.ownsRow 0 5 1 (.slice ao k cap) k (bitCells N k) := own_keep HB.out.row fun b hb => HBE.out.block b (own_lt HB.out.row hb)
      obtain ⟨gb, rfl⟩ : ∃ gb, ao = some ⟨gb, 0, none⟩ := by
        rcases hrow.2 with ⟨h1, h2⟩ | ⟨g', cap', cur, h1, _⟩
        · omega
        · injection h1 with e1; exact ⟨g', e1⟩
      have hbitc : wr.cell? ⟨gb, j, none⟩ = some (.int .u8 ((N / 2 ^ j % 2 : Nat) : Int)) := by
        have := hrow.cells (g := gb) rfl j _ (bitCells_get N k j hlt)
        have ha : (Addr.add ⟨gb, 0, none⟩ j) = ⟨gb, j, none⟩ := by
          unfold Addr.add; by_cases hz : j = 0 <;> simp [hz]
        rwa [ha] at this
      obtain ⟨q, hq⟩ : ∃ q, j / 8 = q := ⟨_, rfl⟩
      obtain ⟨r, hr⟩ : ∃ r, j % 8 = r := ⟨_, rfl⟩
      have hq2 : (j : Int) / 8 = q := by omega
      have hr2 : (j : Int) % 8 = r := by omega
      have hqd : q < d := by have := HD.out; omega
      have hz := zval N j
      have hst := zfill_step N d j
      obtain ⟨_, hz1, hz2⟩ := zf_next N j
      rw [hq] at hz hst hz1
      rw [hr] at hz
      have hoc : wr.cell? ⟨w.heap.size, q, none⟩ = some (.int .u8 (zf N j q)) := by rw [HO.out.cell q, fill_get d _ q hqd]
      have hof := HO.out.frozen q
      generalize zf N j q = zq at *
      generalize N / 2 ^ j % 2 = bt at *
      have HST := hid hst
      have HZ := hid hz
      have hr8 : r < 8 := by omega
      have HRR := hid hr
      have ew : IntKind.i64.wrap (q : Int) = q := IntWalk.i64_in _ (by omega)
      have er : IntKind.i64.wrap (r : Int) = r := IntWalk.i64_in _ (by omega)
      have qd : (q : Int) < d := by omega
      clear hq hr hst hz hz2 hrow
      go_wp2_with fail
      refine wp_region_still_tail 21 (by kernel_rfl) (by kernel_rfl) ?_
      simp only [List.take_succ_cons, List.take_zero, List.drop_succ_cons, List.drop_zero]
      repeat still_step
      refine wpStill_nil ?_
      change wpList _ _ _ _ _ wr.drew
      have hO2 : Has wr.drew w.heap.size 5 (fill d (zf N j)) := HO.out.drew
      have hB2 : Below w.heap.size w wr.drew := HBE.out.drew
      generalize wr.drew = W1 at *
      have HO2 := hid hO2
      have HB2 := hid hB2
      have hoc2 := HO2.out.cell q
      have hfc := fill_get d (zf N j) q hqd
      rw [hfc] at hoc2
      have hof2 := HO2.out.frozen q
      clear hO2 hB2 ew er hoc hof hbitc d0 hfc
      go_wp2
      go_roundw
      case rel =>
        refine ⟨j + 1, by omega, by go_num, ?_, HB2.out.setCell (p := ⟨w.heap.size, q, none⟩) (Nat.le_refl _) _⟩
        have he : ((zq + (bt : Int) * 2 ^ min (j % 8) 8) % 256) = zf N (j + 1) q := by
          rw [HRR.out, Nat.min_eq_left (by omega), ← HZ.out, IntKind.wrap_u8', IntKind.wrap_u8']
          omega
        rw [← HST.out, he]
        exact HO2.out.put q _
      case measure => simp [intOf]; omega
    · obtain rfl : k = j := by omega
      have hN2 := HN.out
      have hcv := conv_fill (P := Tryd.prog) wr 30 9 5 Tryd.underlying30 Tryd.underlying5 Tryd.underlying9 (c := d) HO.out (fun i hi => by unfold zf; omega)
      have hstr : (⟨(strOf d (zf N k)).toArray⟩ : ByteArray) = strN N d := by
        unfold strOf strN zf
        rw [Nat.mod_eq_of_lt hN2]
        simp only [Int.toNat_natCast]
      rw [hstr] at hcv
      clear hN2 hstr
      go_wp2
      go_returns
      exact ⟨rfl, HBE.out⟩
end Go.Proofs.YtaihojjocmdgbaaDoor

/- Plain: fonts, their tables: what bytes say, what is written. No program in it. -/
import Derived.Test.YtciaebhkemdilabWinY
import Derived.Test.YtciaebhkemdilabRvP
import Derived.Test.YtciaebhkemdilabSumN
namespace Go.Proofs.Ytciaebhkemdilab
open Go.RowKit
set_option linter.unusedVariables false
def b4 (s : ByteArray) (p : Nat) : Nat := numAt s p 4 true
def b2 (s : ByteArray) (p : Nat) : Nat := numAt s p 2 true
theorem b4_lt (s : ByteArray) (p : Nat) : b4 s p < 4294967296 := num_lt s p 4 true
theorem b2_lt (s : ByteArray) (p : Nat) : b2 s p < 65536 := num_lt s p 2 true
def kindB (k : Nat) : Bool := decide (k = 65536) || decide (k = 1330926671)
theorem kindB_lt {k : Nat} (h : kindB k = true) : k < 4294967296 := by
  unfold kindB at h
  rcases Bool.or_eq_true_iff.1 h with h | h <;> (have := of_decide_eq_true h; omega)
/-- One text stands ahead of another. -/
def ltT (a b : ByteArray) : Bool := Op.bytesLess a.toList b.toList
theorem less_not : ∀ {a b : List UInt8}, Op.bytesLess a b = false → a ≠ b → Op.bytesLess b a = true
  | [], [], _, h => absurd rfl h
  | [], b :: y, h, _ => by simp [Op.bytesLess] at h
  | a :: x, [], _, _ => rfl
  | a :: x, b :: y, h, hn => by
    simp only [Op.bytesLess, Bool.or_eq_false_iff, Bool.and_eq_false_imp, decide_eq_false_iff_not] at h
    simp only [Op.bytesLess, Bool.or_eq_true, Bool.and_eq_true, decide_eq_true_eq, beq_iff_eq]
    by_cases e : a = b
    · subst e
      exact .inr ⟨rfl, less_not (h.2 (by simp)) (fun e => hn (by rw [e]))⟩
    · left
      have h1 : ¬ a.toNat < b.toNat := fun q => h.1 (UInt8.lt_iff_toNat_lt.2 q)
      have h2 : a.toNat ≠ b.toNat := fun q => e (UInt8.toNat_inj.1 q)
      exact UInt8.lt_iff_toNat_lt.2 (by omega)
theorem less_asym : ∀ {a b : List UInt8}, Op.bytesLess a b = true → Op.bytesLess b a = false ∧ a ≠ b
  | [], [], h => by simp [Op.bytesLess] at h
  | [], b :: y, _ => ⟨rfl, by simp⟩
  | a :: x, [], h => by simp [Op.bytesLess] at h
  | a :: x, b :: y, h => by
    simp only [Op.bytesLess, Bool.or_eq_true, Bool.and_eq_true, decide_eq_true_eq, beq_iff_eq] at h
    rcases h with h | ⟨rfl, h⟩
    · have h1 := UInt8.lt_iff_toNat_lt.1 h
      have h2 : ¬ b < a := fun q => by have := UInt8.lt_iff_toNat_lt.1 q; omega
      have h3 : b ≠ a := fun q => by subst q; omega
      refine ⟨?_, fun e => h3 (by injection e with e _; exact e.symm)⟩
      simp [Op.bytesLess, h2, h3]
    · obtain ⟨h1, h2⟩ := less_asym h
      have h3 : ¬ a < a := fun q => by have := UInt8.lt_iff_toNat_lt.1 q; omega
      refine ⟨?_, fun e => h2 (by injection e)⟩
      simp [Op.bytesLess, h1, h3]
def up4 (n : Nat) : Nat := (n + 3) / 4 * 4
theorem up4_ge (n : Nat) : n ≤ up4 n := by unfold up4; omega
theorem up4_lt (n : Nat) : up4 n < n + 4 := by unfold up4; omega
theorem up4_mod (n : Nat) : up4 n % 4 = 0 := by unfold up4; omega
theorem up4_0 {n : Nat} : up4 n = 0 ↔ n = 0 := by unfold up4; omega
theorem up4_of {n : Nat} (h : n % 4 = 0) : up4 n = n := by unfold up4; omega
def wrdT (s : ByteArray) : Nat := wrdN s s.size
theorem wrdT_lt (s : ByteArray) : wrdT s < 4294967296 := wrdN_lt _ _
def powP (n : Nat) : Nat := 2 ^ Nat.log2 n
def headT (kind n : Nat) : ByteArray := bytesS kind 4 true ++ bytesS n 2 true ++ bytesS (16 * powP n) 2 true ++ bytesS (Nat.log2 n) 2 true ++ bytesS (16 * (n - powP n)) 2 true
theorem headT_size (k n : Nat) : (headT k n).size = 12 := by
  unfold headT
  simp only [ByteArray.size_append, bytesS_size]
/-- Entry i begins here. -/
def eAt (i : Nat) : Nat := 12 + 16 * i
section
variable (s : ByteArray)
def tagOf (i : Nat) : ByteArray := s.extract (eAt i) (eAt i + 4)
def sumOf (i : Nat) : Nat := b4 s (eAt i + 4)
def atOf (i : Nat) : Nat := b4 s (eAt i + 8)
def lenOf (i : Nat) : Nat := b4 s (eAt i + 12)
def datOf (i : Nat) : ByteArray := s.extract (atOf s i) (atOf s i + lenOf s i)
def tabOf (i : Nat) : ChkR := ⟨tagOf s i, datOf s i⟩
def ordB : Nat → Bool
  | 0 => true
  | i + 1 => ltT (tagOf s i) (tagOf s (i + 1))
def spnL (n : Nat) : Nat → List PartR
  | 0 => [⟨0, 12 + 16 * n, 0⟩]
  | i + 1 => if up4 (lenOf s i) = 0 then spnL n i else addL (spnL n i) (atOf s i) ((atOf s i + up4 (lenOf s i) : Nat) : Int) i
def zeroB (p q : Nat) : Bool := decide (∀ j, j < q - p → bt s (p + j) = 0)
def formB (i : Nat) : Bool := typB (tagOf s i) && ordB s i && decide (atOf s i % 4 = 0) && decide (lenOf s i ≤ 16777216)
def tabE (n i : Nat) : Int :=
  if formB s i = false then 3
  else if s.size < atOf s i + up4 (lenOf s i) then 2
  else if zeroB s (atOf s i + lenOf s i) (atOf s i + up4 (lenOf s i)) = false then 3
  else if lenOf s i ≠ 0 ∧ addE (spnL s n i) (atOf s i) ((atOf s i + up4 (lenOf s i) : Nat) : Int) ≠ 0 then 5
  else if wrdT (datOf s i) ≠ sumOf s i then 4 else 0
def allN : Nat → Nat
  | 0 => 0
  | i + 1 => allN i + up4 (lenOf s i)
structure HeadOk : Prop where
  kind : kindB (b4 s 0) = true
  one : 1 ≤ b2 s 4
  few : b2 s 4 ≤ 1000
  all : s.extract 0 12 = headT (b4 s 0) (b2 s 4)
instance : Decidable (HeadOk s) :=
  decidable_of_iff (kindB (b4 s 0) = true ∧ 1 ≤ b2 s 4 ∧ b2 s 4 ≤ 1000 ∧ s.extract 0 12 = headT (b4 s 0) (b2 s 4))
    ⟨fun ⟨a, b, c, d⟩ => ⟨a, b, c, d⟩, fun h => ⟨h.kind, h.one, h.few, h.all⟩⟩
def leadE : Int := if s.size < 12 then 2 else if HeadOk s then 0 else 3
/-- The first wrong one of k from i on. -/
def firstE (f : Nat → Int) : Nat → Nat → Int
  | 0, _ => 0
  | k + 1, i => if f i ≠ 0 then f i else firstE f k (i + 1)
def tabsE (n : Nat) : Int := firstE (tabE s n) n 0
def readE : Int :=
  if leadE s ≠ 0 then leadE s else if s.size < eAt (b2 s 4) then 2 else if tabsE s (b2 s 4) ≠ 0 then tabsE s (b2 s 4) else if 1073741824 ≤ allN s (b2 s 4) then 3 else 0
def tabsL (n : Nat) : List ChkR := (List.range n).map (tabOf s)
def readL : List ChkR := if readE s = 0 then tabsL s (b2 s 4) else []
def readK : Nat := if readE s = 0 then b4 s 0 else 0
end
theorem first_bad {f : Nat → Int} {k i : Nat} (hk : 0 < k) (h : f i ≠ 0) : firstE f k i = f i := by
  obtain ⟨k, rfl⟩ : ∃ j, k = j + 1 := ⟨k - 1, by omega⟩
  rw [firstE, if_pos h]
theorem first_next {f : Nat → Int} {k i : Nat} (hk : 0 < k) (h : f i = 0) : firstE f k i = firstE f (k - 1) (i + 1) := by
  obtain ⟨k, rfl⟩ : ∃ j, k = j + 1 := ⟨k - 1, by omega⟩
  rw [firstE, if_neg (by rw [h]; exact fun h => h rfl), Nat.add_sub_cancel]
theorem first_all {f : Nat → Int} : ∀ {k i : Nat}, (∀ j, i ≤ j → j < i + k → f j = 0) → firstE f k i = 0
  | 0, _, _ => rfl
  | k + 1, i, h => by
    rw [firstE, if_neg (by rw [h i (Nat.le_refl _) (by omega)]; exact fun h => h rfl)]
    exact first_all fun j h1 h2 => h j (by omega) (by omega)
theorem first_0 {f : Nat → Int} : ∀ {k i : Nat}, firstE f k i = 0 → ∀ j, i ≤ j → j < i + k → f j = 0
  | 0, _, _, j, h1, h2 => by omega
  | k + 1, i, h, j, h1, h2 => by
    rw [firstE] at h
    by_cases h0 : f i ≠ 0
    · rw [if_pos h0] at h; exact absurd h h0
    · rw [if_neg h0] at h
      by_cases e : j = i
      · subst e; simpa using h0
      · exact first_0 h j (by omega) (by omega)
theorem first_is {f : Nat → Int} : ∀ {n i k : Nat}, i ≤ k → k < i + n → (∀ j, i ≤ j → j < k → f j = 0) → f k ≠ 0 → firstE f n i = f k
  | 0, i, k, h1, h2, _, _ => by omega
  | n + 1, i, k, h1, h2, h3, h4 => by
    rw [firstE]
    by_cases e : i = k
    · subst e; rw [if_pos h4]
    · rw [if_neg (by rw [h3 i (Nat.le_refl _) (by omega)]; exact fun h => h rfl)]
      exact first_is (by omega) (by omega) (fun j a b => h3 j (by omega) b) h4
theorem eAt_succ (i : Nat) : eAt (i + 1) = eAt i + 16 := by unfold eAt; omega
section
variable {s : ByteArray} {n i : Nat}
theorem spnL_rising (hn : n ≤ 65536) (i : Nat) : Rising (spnL s n i) := by
  induction i with
  | zero => exact ⟨by show 0 < 12 + 16 * n; omega, by show 12 + 16 * n ≤ 4611686018427387904; omega⟩
  | succ i ih =>
    rw [spnL]
    split
    · exact ih
    · exact addL_rising ih _ _ _
theorem spnL_len (n i : Nat) : (spnL s n i).length ≤ i + 1 := by
  induction i with
  | zero => exact Nat.le_refl _
  | succ i ih =>
    rw [spnL]
    split
    · omega
    · have := addL_len (spnL s n i) (atOf s i) ((atOf s i + up4 (lenOf s i) : Nat) : Int) i
      omega
theorem tab_form (h : formB s i = false) : tabE s n i = 3 := if_pos h
theorem tab_cut (h : formB s i = true) (h2 : s.size < atOf s i + up4 (lenOf s i)) : tabE s n i = 2 := by rw [tabE, if_neg (by rw [h]; decide), if_pos h2]
theorem tab_zero (h : formB s i = true) (h2 : ¬ s.size < atOf s i + up4 (lenOf s i)) (h3 : zeroB s (atOf s i + lenOf s i) (atOf s i + up4 (lenOf s i)) = false) : tabE s n i = 3 := by
  rw [tabE, if_neg (by rw [h]; decide), if_neg h2, if_pos h3]
theorem tab_over (h : formB s i = true) (h2 : ¬ s.size < atOf s i + up4 (lenOf s i)) (h3 : zeroB s (atOf s i + lenOf s i) (atOf s i + up4 (lenOf s i)) = true) (h4 : lenOf s i ≠ 0 ∧ addE (spnL s n i) (atOf s i) ((atOf s i + up4 (lenOf s i) : Nat) : Int) ≠ 0) : tabE s n i = 5 := by
  rw [tabE, if_neg (by rw [h]; decide), if_neg h2, if_neg (by rw [h3]; decide), if_pos h4]
theorem tab_sum (h : formB s i = true) (h2 : ¬ s.size < atOf s i + up4 (lenOf s i)) (h3 : zeroB s (atOf s i + lenOf s i) (atOf s i + up4 (lenOf s i)) = true) (h4 : lenOf s i ≠ 0 → addE (spnL s n i) (atOf s i) ((atOf s i + up4 (lenOf s i) : Nat) : Int) = 0) (h5 : wrdT (datOf s i) ≠ sumOf s i) : tabE s n i = 4 := by
  rw [tabE, if_neg (by rw [h]; decide), if_neg h2, if_neg (by rw [h3]; decide), if_neg (fun ⟨a, b⟩ => b (h4 a)), if_pos h5]
theorem tab_ok (h : formB s i = true) (h2 : ¬ s.size < atOf s i + up4 (lenOf s i)) (h3 : zeroB s (atOf s i + lenOf s i) (atOf s i + up4 (lenOf s i)) = true) (h4 : lenOf s i ≠ 0 → addE (spnL s n i) (atOf s i) ((atOf s i + up4 (lenOf s i) : Nat) : Int) = 0) (h5 : wrdT (datOf s i) = sumOf s i) : tabE s n i = 0 := by
  rw [tabE, if_neg (by rw [h]; decide), if_neg h2, if_neg (by rw [h3]; decide), if_neg (fun ⟨a, b⟩ => b (h4 a)), if_neg (fun h => h h5)]
theorem head_cut (h : s.size < 12) : leadE s = 2 := if_pos h
theorem head_bad (h : ¬ s.size < 12) (k : ¬ HeadOk s) : leadE s = 3 := by rw [leadE, if_neg h, if_neg k]
theorem head_ok (h : ¬ s.size < 12) (k : HeadOk s) : leadE s = 0 := by rw [leadE, if_neg h, if_pos k]
theorem read_head (h : leadE s ≠ 0) : readE s = leadE s := if_pos h
theorem read_cut (h : leadE s = 0) (k : s.size < eAt (b2 s 4)) : readE s = 2 := by rw [readE, if_neg (fun q => q h), if_pos k]
theorem read_tab (h : leadE s = 0) (k : ¬ s.size < eAt (b2 s 4)) (t : tabsE s (b2 s 4) ≠ 0) : readE s = tabsE s (b2 s 4) := by rw [readE, if_neg (fun q => q h), if_neg k, if_pos t]
theorem read_much (h : leadE s = 0) (k : ¬ s.size < eAt (b2 s 4)) (t : tabsE s (b2 s 4) = 0) (a : 1073741824 ≤ allN s (b2 s 4)) : readE s = 3 := by rw [readE, if_neg (fun q => q h), if_neg k, if_neg (fun q => q t), if_pos a]
theorem read_ok (h : leadE s = 0) (k : ¬ s.size < eAt (b2 s 4)) (t : tabsE s (b2 s 4) = 0) (a : ¬ 1073741824 ≤ allN s (b2 s 4)) : readE s = 0 := by rw [readE, if_neg (fun q => q h), if_neg k, if_neg (fun q => q t), if_neg a]
theorem readL_bad (h : readE s ≠ 0) : readL s = [] := if_neg h
theorem readK_bad (h : readE s ≠ 0) : readK s = 0 := if_neg h
theorem readL_ok (h : readE s = 0) : readL s = tabsL s (b2 s 4) := if_pos h
theorem readK_ok (h : readE s = 0) : readK s = b4 s 0 := if_pos h
theorem tabsL_len (s : ByteArray) (n : Nat) : (tabsL s n).length = n := by simp [tabsL]
theorem tabsL_succ (s : ByteArray) (k : Nat) : tabsL s (k + 1) = tabsL s k ++ [tabOf s k] := by simp [tabsL, List.range_succ]
theorem allN_le (h : ∀ i, i < n → lenOf s i ≤ 16777216) : ∀ k, k ≤ n → allN s k ≤ k * 16777220 := fun k hk => by
  induction k with
  | zero => exact Nat.le_refl _
  | succ k ih =>
    have h1 := ih (by omega)
    have h2 := h k (by omega)
    have h3 := up4_lt (lenOf s k)
    rw [allN, Nat.succ_mul]
    omega
theorem read_is0 (h : readE s = 0) : leadE s = 0 ∧ ¬ s.size < eAt (b2 s 4) ∧ tabsE s (b2 s 4) = 0 ∧ ¬ 1073741824 ≤ allN s (b2 s 4) := by
  unfold readE at h
  by_cases h1 : leadE s ≠ 0
  · rw [if_pos h1] at h; exact absurd h h1
  rw [if_neg h1] at h
  by_cases h2 : s.size < eAt (b2 s 4)
  · rw [if_pos h2] at h; cases h
  rw [if_neg h2] at h
  by_cases h3 : tabsE s (b2 s 4) ≠ 0
  · rw [if_pos h3] at h; exact absurd h h3
  rw [if_neg h3] at h
  by_cases h4 : 1073741824 ≤ allN s (b2 s 4)
  · rw [if_pos h4] at h; cases h
  exact ⟨by simpa using h1, h2, by simpa using h3, h4⟩
end
/-! Writing. -/
def zerosT (k : Nat) : ByteArray := ⟨(List.replicate k 0).toArray⟩
theorem zerosT_size (k : Nat) : (zerosT k).size = k := by show (List.replicate k (0 : UInt8)).toArray.size = k; simp
def zeroC : ChkR := ⟨⟨#[]⟩, ⟨#[]⟩⟩
def tb (l : List ChkR) (k : Nat) : ChkR := l.getD k zeroC
theorem tb_get {l : List ChkR} {k : Nat} (h : k < l.length) : tb l k = l[k] := by simp [tb, h]
def rowT (x : ChkR) (p : Nat) : ByteArray := x.typ ++ bytesS (wrdT x.dat) 4 true ++ bytesS p 4 true ++ bytesS x.dat.size 4 true
def padT (d : ByteArray) : ByteArray := d ++ zerosT (up4 d.size - d.size)
theorem padT_size (d : ByteArray) : (padT d).size = up4 d.size := by
  unfold padT
  rw [ByteArray.size_append, zerosT_size]
  have := up4_ge d.size
  omega
section
variable (l : List ChkR)
/-- Where the Data of entry k begin, from the first ones on. -/
def offN : Nat → Nat
  | 0 => 0
  | k + 1 => offN k + up4 (tb l k).dat.size
def rowsN (n : Nat) : Nat → ByteArray
  | 0 => ⟨#[]⟩
  | k + 1 => rowsN n k ++ rowT (tb l k) (eAt n + offN l k)
def datsN : Nat → ByteArray
  | 0 => ⟨#[]⟩
  | k + 1 => datsN k ++ padT (tb l k).dat
def ordL : Nat → Bool
  | 0 => true
  | i + 1 => ltT (tb l i).typ (tb l (i + 1)).typ
structure MayL : Prop where
  one : 1 ≤ l.length
  few : l.length ≤ 1000
  tag : ∀ i, i < l.length → typB (tb l i).typ = true
  ord : ∀ i, i < l.length → ordL l i = true
  big : ∀ i, i < l.length → (tb l i).dat.size ≤ 16777216
  all : offN l l.length < 1073741824
instance : Decidable (MayL l) :=
  decidable_of_iff (1 ≤ l.length ∧ l.length ≤ 1000 ∧ (∀ i, i < l.length → typB (tb l i).typ = true) ∧ (∀ i, i < l.length → ordL l i = true) ∧ (∀ i, i < l.length → (tb l i).dat.size ≤ 16777216) ∧ offN l l.length < 1073741824)
    ⟨fun ⟨a, b, c, d, e, f⟩ => ⟨a, b, c, d, e, f⟩, fun h => ⟨h.one, h.few, h.tag, h.ord, h.big, h.all⟩⟩
def mayB : Bool := decide (MayL l)
def writeT (k : Nat) : ByteArray := headT k l.length ++ rowsN l l.length l.length ++ datsN l l.length
def writeOk (k : Nat) : Bool := kindB k && mayB l
end
theorem offN_mono (l : List ChkR) : ∀ {k m : Nat}, k ≤ m → offN l k ≤ offN l m
  | k, 0, h => by have : k = 0 := by omega
                  subst this; exact Nat.le_refl _
  | k, m + 1, h => by
    by_cases e : k = m + 1
    · subst e; exact Nat.le_refl _
    · have := offN_mono l (k := k) (m := m) (by omega)
      rw [offN]; omega
theorem offN_mod (l : List ChkR) (k : Nat) : offN l k % 4 = 0 := by
  induction k with
  | zero => rfl
  | succ k ih => rw [offN]; have := up4_mod (tb l k).dat.size; omega
theorem rowT_size {x : ChkR} (h : typB x.typ = true) (p : Nat) : (rowT x p).size = 16 := by
  unfold rowT
  simp only [ByteArray.size_append, bytesS_size, typ_size h]
theorem rowsN_size {l : List ChkR} (n : Nat) : ∀ {k : Nat}, (∀ i, i < k → typB (tb l i).typ = true) → (rowsN l n k).size = 16 * k
  | 0, _ => rfl
  | k + 1, h => by
    rw [rowsN, ByteArray.size_append, rowsN_size n (fun i hi => h i (by omega)), rowT_size (h k (by omega))]
    omega
theorem datsN_size (l : List ChkR) (k : Nat) : (datsN l k).size = offN l k := by
  induction k with
  | zero => rfl
  | succ k ih => rw [datsN, ByteArray.size_append, ih, padT_size, offN]
theorem writeT_size {l : List ChkR} (h : MayL l) (k : Nat) : (writeT l k).size = eAt l.length + offN l l.length := by
  unfold writeT eAt
  rw [ByteArray.size_append, ByteArray.size_append, headT_size, rowsN_size _ h.tag, datsN_size]
theorem may_0 {l : List ChkR} (h : ¬ (1 ≤ l.length ∧ l.length ≤ 1000)) : mayB l = false := decide_eq_false fun q => h ⟨q.one, q.few⟩
theorem may_bad {l : List ChkR} {i : Nat} (hi : i < l.length) (h : typB (tb l i).typ = false ∨ ordL l i = false ∨ 16777216 < (tb l i).dat.size) : mayB l = false := decide_eq_false fun q => by
  rcases h with h | h | h
  · rw [q.tag i hi] at h; cases h
  · rw [q.ord i hi] at h; cases h
  · have := q.big i hi; omega
theorem may_much {l : List ChkR} {i : Nat} (hi : i ≤ l.length) (h : 1073741824 ≤ offN l i) : mayB l = false := decide_eq_false fun q => by
  have := q.all
  have := offN_mono l hi
  omega
end Go.Proofs.Ytciaebhkemdilab

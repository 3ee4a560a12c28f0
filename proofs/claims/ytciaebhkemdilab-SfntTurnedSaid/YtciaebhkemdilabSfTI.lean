import Derived.Test.YtciaebhkemdilabRows
import Derived.Test.YtciaebhkemdilabLawKit
import Derived.Test.YtciaebhkemdilabWinY
import Derived.Maps.AppendAt
import Derived.Deep.Slices
import Derived.Test.YtciaebhkemdilabSfAB
/- How a slice of api.Table that came in, or was made, is read: cell by cell. -/
namespace Go.Proofs.Ytciaebhkemdilab
open Go.RowKit Go.ChangeShapes Go.WideShapes Go.ChangeAt Go.Deep
set_option linter.unusedVariables false
/-- What its fields may hold. -/
def ChkR.Ok (x : ChkR) : Prop := x.typ.size ≤ 9223372036854775807 ∧ x.dat.size ≤ 9223372036854775807
def ChkAt (w : World) (a : Option Addr) (l : List ChkR) : Prop :=
  ∀ i (h : i < l.length), ∃ b off, a = some ⟨b, off, none⟩ ∧ b < w.heap.size ∧ w.cell? ⟨b, off + i * 2, none⟩ = some (.string (l[i]'h).typ) ∧ w.cell? ⟨b, off + i * 2 + 1, none⟩ = some (.string (l[i]'h).dat) ∧ (l[i]'h).Ok
theorem ChkAt.below {w w' : World} {a : Option Addr} {l : List ChkR} (h : ChkAt w a l) (hb : Below w.heap.size w w') : ChkAt w' a l := fun i hi => by
  obtain ⟨b, off, e, hl, h0, h1, hk⟩ := h i hi
  exact ⟨b, off, e, Nat.lt_of_lt_of_le hl hb.size, (hb.cell (p := ⟨b, _, none⟩) hl).trans h0, (hb.cell (p := ⟨b, _, none⟩) hl).trans h1, hk⟩
theorem cells_chk : Try.prog.cellsOf 35 = 2 := by kernel_rfl
section
variable {H : Type} {enc : TypeId × Value → H} {w : World} {base : Nat} {spare : Nat → Bool} {held : Bool}
set_option maxRecDepth 100000 in
set_option maxHeartbeats 1000000 in
theorem open_chk {n : Nat} {u : Value} {y : DataW H × List MemPlace} (h : DataW.trod enc Try.prog w base spare held n 23 [u] = some y) :
    ∃ (a : Option Addr) (len cap : Nat) (l : List ChkR), u = .slice a len cap ∧ len ≤ 9223372036854775807 ∧ l.length = len ∧ ChkAt w a l := by
  rcases open_slice Try.underlying23 h with ⟨hcs, _⟩ | ⟨a, len, cap, mm, nn, D, Pl, hcs, _, hl, hcm, hm, _, hi⟩
  · simp only [List.cons.injEq, and_true] at hcs
    exact ⟨none, 0, 0, [], hcs, by omega, rfl, fun i hi => by simp at hi⟩
  · simp only [List.cons.injEq, and_true] at hcs
    have hlm : len ≤ mm := by rw [hm]; split <;> omega
    by_cases hz : len = 0
    · exact ⟨some a, len, cap, [], hcs, by omega, by simp [hz], fun i hi => by simp at hi⟩
    have hsp : a.spot = none := by
      obtain ⟨cs', hc, _⟩ := hi 0 (by omega)
      rw [cells_chk] at hc
      obtain ⟨_, hcl, hat⟩ := World.cells?_some hc
      match cs', hcl with
      | [v0, v1], _ =>
        have c0 := hat 0 (by omega)
        simp only [List.getElem?_cons_zero] at c0
        simpa [Addr.add] using World.cell?_spot c0
    obtain ⟨b, off, sp⟩ := a
    obtain rfl : sp = none := hsp
    have key : ∀ i, i < len → ∃ p : ChkR, ∃ b' off', some (⟨b, off, none⟩ : Addr) = some ⟨b', off', none⟩ ∧ b' < w.heap.size ∧ w.cell? ⟨b', off' + i * 2, none⟩ = some (.string p.typ) ∧ w.cell? ⟨b', off' + i * 2 + 1, none⟩ = some (.string p.dat) ∧ p.Ok := fun i hlt => by
      obtain ⟨cs', hc, ht⟩ := hi i (by omega)
      rw [cells_chk] at hc
      obtain ⟨_, hcl, hat⟩ := World.cells?_some hc
      obtain ⟨xs, n', _, hy, hlen, hxl, hf⟩ := DataW.trod_struct Try.underlying35 ht
      match cs', hcl with
      | [v0, v1], _ =>
        have h0 := hf 0 _ rfl
        have h1 := hf 1 _ rfl
        have e0 : xs[0]? = some (xs[0]'(by rw [hxl]; decide)) := List.getElem?_eq_getElem _
        have e1 : xs[1]? = some (xs[1]'(by rw [hxl]; decide)) := List.getElem?_eq_getElem _
        rw [e0] at h0
        rw [e1] at h1
        obtain ⟨x0, hx0, _, hw0⟩ := DataW.trod_string Try.underlying9 h0
        obtain ⟨x1, hx1, _, hw1⟩ := DataW.trod_string Try.underlying9 h1
        have c0 := hat 0 (by omega)
        have c1 := hat 1 (by omega)
        have v0e : v0 = .string x0 := by simpa [show Try.prog.cellsOf 9 = 1 from by kernel_rfl] using hx0
        have v1e : v1 = .string x1 := by simpa [show Try.prog.cellsOf 9 = 1 from by kernel_rfl] using hx1
        subst v0e v1e
        simp only [List.getElem?_cons_zero] at c0
        simp only [List.getElem?_cons_succ, List.getElem?_cons_zero] at c1
        have aj : ∀ j, (Addr.add (Addr.add ⟨b, off, none⟩ (i * 2)) j) = ⟨b, off + i * 2 + j, none⟩ := fun j => by
          unfold Addr.add
          by_cases hz : i * 2 = 0 <;> by_cases hj : j = 0 <;> simp [hz, hj]
        rw [aj] at c0 c1
        refine ⟨⟨x0, x1⟩, b, off, rfl, ?_, by simpa using c0, c1, ⟨by have := hw0; unfold maxLen at this; exact this, by have := hw1; unfold maxLen at this; exact this⟩⟩
        rcases Nat.lt_or_ge b w.heap.size with hlt' | hge
        · exact hlt'
        · simp [World.cell?, Array.getElem?_eq_none hge] at c0
    have hch : ∃ f : Nat → ChkR, ∀ i, i < len → ∃ b' off', some (⟨b, off, none⟩ : Addr) = some ⟨b', off', none⟩ ∧ b' < w.heap.size ∧ w.cell? ⟨b', off' + i * 2, none⟩ = some (.string (f i).typ) ∧ w.cell? ⟨b', off' + i * 2 + 1, none⟩ = some (.string (f i).dat) ∧ (f i).Ok :=
      ⟨fun i => if h : i < len then (key i h).choose else ⟨⟨#[]⟩, ⟨#[]⟩⟩, fun i h => by
        have := (key i h).choose_spec
        simpa [h] using this⟩
    obtain ⟨f, hf⟩ := hch
    refine ⟨some ⟨b, off, none⟩, len, cap, (List.range len).map f, hcs, by unfold maxLen at hcm; omega, by simp, fun i hi => ?_⟩
    have hi' : i < len := by simpa using hi
    have := hf i hi'
    simpa using this
end
def chkCell (o : ChkR) : List Value := [.string o.typ, .string o.dat]
def chkCells (l : List ChkR) : List Value := l.flatMap chkCell
theorem chkCells_snoc (l : List ChkR) (o : ChkR) : chkCells (l ++ [o]) = chkCells l ++ chkCell o := by simp [chkCells]
theorem chkCells_app (l m : List ChkR) : chkCells (l ++ m) = chkCells l ++ chkCells m := by simp [chkCells]
theorem chkCells_len (l : List ChkR) : (chkCells l).length = l.length * 2 := by
  induction l with
  | nil => rfl
  | cons o l ih =>
    have e : chkCells (o :: l) = chkCell o ++ chkCells l := by simp [chkCells]
    have e4 : (chkCell o).length = 2 := rfl
    rw [e, List.length_append, ih, List.length_cons]; omega
theorem chkCells_get (l : List ChkR) (i : Nat) (h : i < l.length) (j : Nat) (hj : j < 2) : (chkCells l)[i * 2 + j]? = (chkCell l[i])[j]? := by
  induction l generalizing i with
  | nil => simp at h
  | cons o l ih =>
    have e : chkCells (o :: l) = chkCell o ++ chkCells l := by simp [chkCells]
    have e4 : (chkCell o).length = 2 := rfl
    rw [e]
    cases i with
    | zero =>
      rw [Nat.zero_mul, Nat.zero_add, List.getElem?_append_left (by omega)]
      rfl
    | succ i =>
      rw [List.getElem?_append_right (by omega), show (i + 1) * 2 + j - (chkCell o).length = i * 2 + j by omega]
      exact ih i (by simpa using h)
theorem ChkAt.of_cells {w : World} {g : Nat} {l : List ChkR} (hlt : l.length ≠ 0 → g < w.heap.size) (hc : ∀ j u, (chkCells l)[j]? = some u → w.cell? ⟨g, j, none⟩ = some u) (hv : ∀ o ∈ l, o.Ok) : ChkAt w (some ⟨g, 0, none⟩) l := fun i hi => by
  have key : ∀ j, j < 2 → ∀ u, (chkCell l[i])[j]? = some u → w.cell? ⟨g, 0 + i * 2 + j, none⟩ = some u := fun j hj u hu => by
    have := hc (i * 2 + j) u (by rw [chkCells_get l i hi j hj, hu])
    rw [Nat.zero_add]; exact this
  exact ⟨g, 0, rfl, hlt (by omega), key 0 (by omega) _ rfl, key 1 (by omega) _ rfl, hv _ (List.getElem_mem _)⟩
theorem ChkAt.of_own {w : World} {B : Nat} {ao : Option Addr} {n cap : Nat} {l : List ChkR} (h : w.ownsRow B 35 2 (.slice ao n cap) l.length (chkCells l)) (hv : ∀ o ∈ l, o.Ok) : ChkAt w ao l := by
  rcases h.2 with ⟨h1, h2⟩ | ⟨g, cap', cur, h1, h3, h2, _⟩
  · intro i hi; omega
  · injection h1 with e1 e2 e3
    subst e1
    subst e2
    refine ChkAt.of_cells (fun _ => (Array.getElem?_eq_some_iff.1 h2).1) (fun j u hu => ?_) hv
    have := h.cells (g := g) rfl j u hu
    have ea : (Addr.add ⟨g, 0, none⟩ j) = ⟨g, j, none⟩ := by
      unfold Addr.add
      by_cases hz : j = 0
      · simp [hz]
      · simp; omega
    rwa [ea] at this
theorem chkInfo : (Try.prog.info? 35).map (fun i => (i.zero, i.size, i.bytes)) = some (some (.agg #[.string ⟨#[]⟩, .string ⟨#[]⟩]), 2, 32) := by kernel_rfl
end Go.Proofs.Ytciaebhkemdilab
/- Texts as lists: == on them. No program in it. -/
namespace Go.Proofs.Ytciaebhkemdilab
open Go.RowKit
set_option linter.unusedVariables false
theorem loop_data (n : Nat) : ∀ (d : ByteArray) (i : Nat) (r : List UInt8), d.size - i = n → ByteArray.toList.loop d i r = r.reverse ++ d.data.toList.drop i := by
  induction n with
  | zero =>
    intro d i r h
    have hl : d.data.toList.length = d.size := by simp
    rw [ByteArray.toList.loop, if_neg (by omega), List.drop_of_length_le (by omega), List.append_nil]
  | succ n ih =>
    intro d i r h
    have hl : d.data.toList.length = d.size := by simp
    rw [ByteArray.toList.loop, if_pos (by omega), ih d (i + 1) _ (by omega), List.reverse_cons, List.append_assoc, List.drop_eq_getElem_cons (i := i) (by omega)]
    congr 2
    show [d.get! i] ++ _ = _
    have : d.get! i = d.data.toList[i]'(by omega) := by
      have hi : i < d.data.size := by have : d.data.size = d.size := rfl; omega
      show d.data[i]! = _
      rw [getElem!_pos d.data i hi]
      simp
    rw [this]
    rfl
theorem toList_data (d : ByteArray) : d.toList = d.data.toList := by
  unfold ByteArray.toList
  rw [loop_data _ d 0 [] rfl]
  simp
theorem str_ne {a b : ByteArray} (h : a ≠ b) : (a.toList == b.toList) = false := by
  rw [beq_eq_false_iff_ne]
  intro e
  apply h
  rw [toList_data, toList_data] at e
  obtain ⟨a⟩ := a
  obtain ⟨b⟩ := b
  congr 1
  exact Array.toList_inj.1 e
theorem str_nl {s : ByteArray} {l : List UInt8} (h : s ≠ ⟨l.toArray⟩) : (s.toList == l) = false := by
  rw [beq_eq_false_iff_ne, toList_data]
  intro e
  exact h (ba_ext e)
theorem str_is {s : ByteArray} {l : List UInt8} (h : s = ⟨l.toArray⟩) : (s.toList == l) = true := by
  rw [beq_iff_eq, toList_data, h]
end Go.Proofs.Ytciaebhkemdilab
/- areValid: may these tables be written (contract of the function). -/
namespace Go.Proofs.Ytciaebhkemdilab
open Go.RowKit
set_option linter.unusedVariables false
set_option linter.unusedSimpArgs false
def prevL (l : List ChkR) : Nat → ByteArray
  | 0 => ⟨#[]⟩
  | k + 1 => (tb l k).typ
theorem ordL_no {l : List ChkR} {k : Nat} (ht : typB (tb l k).typ = true) (h : Op.bytesLess (tb l k).typ.toList (prevL l k).toList = true ∨ ((tb l k).typ.toList == (prevL l k).toList) = true) (h0 : k ≠ 0) : ordL l k = false := by
  obtain ⟨i, rfl⟩ : ∃ i, k = i + 1 := ⟨k - 1, by omega⟩
  show ltT (tb l i).typ (tb l (i + 1)).typ = false
  unfold ltT
  rcases h with h | h
  · exact (less_asym h).1
  · rw [beq_iff_eq] at h
    have h : (tb l (i + 1)).typ.toList = (tb l i).typ.toList := h
    rw [h]
    cases hb : Op.bytesLess (tb l i).typ.toList (tb l i).typ.toList with
    | false => rfl
    | true => exact absurd rfl (less_asym hb).2
theorem ordL_yes {l : List ChkR} {k : Nat} (h1 : Op.bytesLess (tb l k).typ.toList (prevL l k).toList = false) (h2 : ((tb l k).typ.toList == (prevL l k).toList) = false) : ordL l k = true := by
  cases k with
  | zero => rfl
  | succ i =>
    exact less_not h1 (by
      have := beq_eq_false_iff_ne.1 h2
      exact this)
theorem ordL_0 {l : List ChkR} (ht : typB (tb l 0).typ = true) : Op.bytesLess (tb l 0).typ.toList (prevL l 0).toList = false ∧ ((tb l 0).typ.toList == (prevL l 0).toList) = false := by
  have h4 := typ_size ht
  have e : (prevL l 0).toList = [] := by show (⟨#[]⟩ : ByteArray).toList = []; rw [toList_data]
  rw [e]
  have h5 : (tb l 0).typ.toList.length = 4 := by rw [toList_data, ← h4]; simp
  cases hl : (tb l 0).typ.toList with
  | nil => rw [hl] at h5; cases h5
  | cons a x => exact ⟨rfl, rfl⟩
theorem ordL_bad {l : List ChkR} {k : Nat} (ht : typB (tb l k).typ = true) (h : Op.bytesLess (tb l k).typ.toList (prevL l k).toList = true ∨ ((tb l k).typ.toList == (prevL l k).toList) = true) : ordL l k = false := by
  by_cases h0 : k = 0
  · subst h0
    obtain ⟨a, b⟩ := ordL_0 ht
    rw [a, b] at h
    rcases h with h | h <;> cases h
  · exact ordL_no ht h h0
structure GoodK (l : List ChkR) (k : Nat) : Prop where
  tag : ∀ i, i < k → typB (tb l i).typ = true
  ord : ∀ i, i < k → ordL l i = true
  big : ∀ i, i < k → (tb l i).dat.size ≤ 16777216
theorem GoodK.zero (l : List ChkR) : GoodK l 0 := ⟨fun i h => absurd h (Nat.not_lt_zero i), fun i h => absurd h (Nat.not_lt_zero i), fun i h => absurd h (Nat.not_lt_zero i)⟩
theorem GoodK.succ {l : List ChkR} {k : Nat} (h : GoodK l k) (h1 : typB (tb l k).typ = true) (h2 : ordL l k = true) (h3 : (tb l k).dat.size ≤ 16777216) : GoodK l (k + 1) :=
  ⟨fun i hi => by by_cases e : i = k
                  · subst e; exact h1
                  · exact h.tag i (by omega),
   fun i hi => by by_cases e : i = k
                  · subst e; exact h2
                  · exact h.ord i (by omega),
   fun i hi => by by_cases e : i = k
                  · subst e; exact h3
                  · exact h.big i (by omega)⟩
theorem GoodK.off {l : List ChkR} {k : Nat} (h : GoodK l k) : ∀ i, i ≤ k → offN l i ≤ i * 16777220 := fun i hi => by
  induction i with
  | zero => exact Nat.le_refl _
  | succ i ih =>
    have h1 := ih (by omega)
    have h2 := h.big i (by omega)
    have h3 := up4_lt (tb l i).dat.size
    rw [offN, Nat.succ_mul]
    omega
theorem GoodK.may {l : List ChkR} (h : GoodK l l.length) (h1 : 1 ≤ l.length) (h9 : l.length ≤ 1000) : mayB l = decide (offN l l.length < 1073741824) := by
  unfold mayB
  by_cases h0 : offN l l.length < 1073741824
  · rw [decide_eq_true h0]; exact decide_eq_true ⟨h1, h9, h.tag, h.ord, h.big, h0⟩
  · rw [decide_eq_false h0]; exact decide_eq_false fun q => h0 q.all
theorem count_0 {n : Nat} (h : countB n = false) : ¬ (1 ≤ n ∧ n ≤ 1000) := fun ⟨a, b⟩ => by
  unfold countB at h
  rw [decide_eq_true a, decide_eq_true b] at h
  cases h
theorem count_1 {n : Nat} (h : countB n = true) : 1 ≤ n ∧ n ≤ 1000 := by
  unfold countB at h
  rw [Bool.and_eq_true, decide_eq_true_eq, decide_eq_true_eq] at h
  exact h
set_option maxHeartbeats 1000000 in
theorem tag_long (s : ByteArray) (hs : s.size ≤ 9223372036854775807) (w : World) : Calls Try.prog 28 #[.string s] w fun e w' => e = .returned (.bool (typB s)) ∧ w = w' := by
  go_enter Try.func28, Try.ntmps28
  go_wp2
  go_loopw [6] (fun vi wr => ∃ k : Nat, k ≤ s.size ∧ vi = .int .i64 k ∧ Hid (∀ i, i < k → okN (bt s i) = true) ∧ w = wr) (fun vi _ => s.size - (intOf vi).toNat)
  case atStart => exact ⟨0, Nat.zero_le _, rfl, hid (fun i h => absurd h (Nat.not_lt_zero i)), rfl⟩
  case round =>
    rename World => wr
    obtain ⟨k, hk, rfl, HZ, hww⟩ := hrel
    subst hww
    by_cases hlt : k < s.size
    · have hlt1 : (k : Int) < (s.size : Int) := by omega
      have hb := bt_eq s k hlt
      obtain ⟨c, hc⟩ : ∃ c, bt s k = c := ⟨_, rfl⟩
      have HC := hid hc
      rw [hc] at hb
      have HB := hid hb
      by_cases h1 : c < 32
      · have u1 : (s[k]'hlt).toNat < 32 := by omega
        have HN := hid (typ_not hlt (show okN (bt s k) = false from by rw [HC.out]; unfold okN; rw [decide_eq_false (show ¬ 32 ≤ c by omega)]; rfl))
        clear hb hc h1
        go_wp2
        go_returns
        exact ⟨by rw [HN.out]; rfl, rfl⟩
      · have u1 : ¬ (s[k]'hlt).toNat < 32 := by omega
        by_cases h2 : 126 < c
        · have u2 : 126 < (s[k]'hlt).toNat := by omega
          have HN := hid (typ_not hlt (show okN (bt s k) = false from by rw [HC.out]; unfold okN; rw [decide_eq_false (show ¬ c ≤ 126 by omega), Bool.and_false]))
          clear hb hc h1 h2
          go_wp2
          go_returns
          exact ⟨by rw [HN.out]; rfl, rfl⟩
        · have u2 : ¬ 126 < (s[k]'hlt).toNat := by omega
          have HN := hid (show okN (bt s k) = true from by rw [HC.out]; unfold okN; rw [decide_eq_true (show 32 ≤ c by omega), decide_eq_true (show c ≤ 126 by omega)]; rfl)
          clear hb hc h1 h2
          go_wp2
          exact ⟨⟨k + 1, by omega, by go_num, hid (fun i hi => by
            by_cases e : i = k
            · subst e; exact HN.out
            · exact HZ.out i (by omega)), by trivial⟩, by simp [intOf]; omega⟩
    · obtain rfl : k = s.size := by omega
      have HN := hid (typ_all HZ.out)
      by_cases h4 : s.size = 4
      · have t4 : ((s.size : Int) == 4) = true := by rw [beq_iff_eq]; omega
        have HQ := hid (show typB s = true by rw [HN.out, decide_eq_true h4])
        clear h4
        go_wp2
        go_returns
        exact ⟨by rw [HQ.out]; rfl, rfl⟩
      · have t4 : ((s.size : Int) == 4) = false := by rw [beq_eq_false_iff_ne]; omega
        have HQ := hid (show typB s = false by rw [HN.out, decide_eq_false h4])
        clear h4
        go_wp2
        go_returns
        exact ⟨by rw [HQ.out]; rfl, rfl⟩
set_option maxRecDepth 100000 in
set_option maxHeartbeats 8000000 in
theorem valid_any (a : Option Addr) (len c : Nat) (hlen : len ≤ 9223372036854775807) (l : List ChkR) (hll : Hid (l.length = len)) (w : World) (ha : ChkAt w a l) :
    Calls Try.prog 14 #[.slice a len c] w fun e w' => e = .returned (.bool (mayB l)) ∧ Bw w w' := by
  have HA := hid ha
  clear ha
  have HCT := hid (count_any len w)
  cases hct : countB len with
  | false =>
    rw [hct] at HCT
    have HJ := hid (may_0 (l := l) (by rw [hll.out]; exact count_0 hct))
    clear hct
    go_enter Try.func14, Try.ntmps14
    go_wp2_with fail
    refine HCT.out.mono ?_
    rintro e w2 ⟨rfl, rfl⟩
    go_wp2
    go_returns
    exact ⟨by rw [HJ.out]; rfl, Bw.refl w⟩
  | true =>
    rw [hct] at HCT
    obtain ⟨h1, h9⟩ := count_1 hct
    clear hct
    go_enter Try.func14, Try.ntmps14
    go_wp2_with fail
    refine HCT.out.mono ?_
    rintro e w2 ⟨rfl, rfl⟩
    clear HCT
    go_wp2
    go_loopw [3, 4, 13] (fun vt vn vi wr => ∃ k : Nat, k ≤ len ∧ vi = .int .i64 k ∧ vt = .string (prevL l k) ∧ vn = .int .i64 (offN l k : Nat) ∧ Hid (GoodK l k) ∧ Bw w wr) (fun _ _ vi _ => len - (intOf vi).toNat)
    case atStart => exact ⟨0, Nat.zero_le _, rfl, rfl, rfl, hid (GoodK.zero l), Bw.refl w⟩
    case round =>
      rename World => wr
      obtain ⟨k, hk, rfl, rfl, rfl, HG, hw⟩ := hrel
      have HW := hid hw
      have HOF := hid (HG.out.off k (Nat.le_refl _))
      by_cases hlt : k < len
      · have hk1 : (k : Int) < len := by omega
        have hkl : k < l.length := by rw [hll.out]; exact hlt
        obtain ⟨b1, o1, rfl, hb1, p0, p1, hok⟩ := HA.out.below hw k hkl
        clear hw
        have HTG := hid (fun W => tag_long (l[k]'hkl).typ hok.1 W)
        have hd9 := hok.2
        clear hok
        have HBD := hid (fun h => may_bad (l := l) (i := k) hkl h)
        have HNX := hid (fun a b c => HG.out.succ (l := l) (k := k) a b c)
        have HON := hid (@ordL_bad l k)
        have HOY := hid (@ordL_yes l k)
        have HO1 := hid (show offN l (k + 1) = offN l k + up4 (tb l k).dat.size from rfl)
        have HP1 := hid (show prevL l (k + 1) = (tb l k).typ from rfl)
        have htb : tb l k = l[k]'hkl := tb_get hkl
        rw [← htb] at p0 p1 HTG hd9
        clear htb
        obtain ⟨x, hx⟩ : ∃ x, tb l k = x := ⟨_, rfl⟩
        rw [hx] at p0 p1 HTG hd9 HBD HNX HON HOY HO1 HP1
        clear hx
        obtain ⟨t, d⟩ := x
        simp only at p0 p1 HTG hd9 HBD HNX HON HOY HO1 HP1
        obtain ⟨pv, hpv⟩ : ∃ pv, prevL l k = pv := ⟨_, rfl⟩
        rw [hpv] at HON HOY
        obtain ⟨of, hof⟩ : ∃ of, offN l k = of := ⟨_, rfl⟩
        rw [hof] at HO1 HOF
        rw [hpv, hof]
        clear hpv hof
        have hofz : of ≤ 16777220000 := by have := HOF.out; omega
        have HA2 := hid (HW.out.alloc (.cells #[.string t, .string d] 35))
        obtain ⟨TB, hTB⟩ : ∃ b, typB t = b := ⟨_, rfl⟩
        rw [hTB] at HTG HON HBD HNX
        clear hTB
        cases TB with
        | false =>
          have HJ := hid (HBD.out (.inl rfl))
          clear HBD HNX HON HOY
          go_wp2_with fail
          refine (HTG.out _).mono ?_
          rintro e w4 ⟨rfl, rfl⟩
          go_wp2
          go_returns
          exact ⟨by rw [HJ.out]; rfl, HA2.out⟩
        | true =>
          obtain ⟨b1, hb1⟩ : ∃ b, Op.bytesLess t.toList pv.toList = b := ⟨_, rfl⟩
          obtain ⟨b2, hb2⟩ : ∃ b, (t.toList == pv.toList) = b := ⟨_, rfl⟩
          obtain ⟨OB, hOB⟩ : ∃ b, ordL l k = b := ⟨_, rfl⟩
          rw [hb1, hb2, hOB] at HON HOY
          rw [hOB] at HNX HBD
          have HBX := hid (show (b1 = true ∨ b2 = true) → OB = false from fun h => HON.out rfl h)
          have HBY := hid (show b1 = false → b2 = false → OB = true from HOY.out)
          clear hOB HON HOY
          cases b1 with
          | true =>
            have HJ := hid (HBD.out (.inr (.inl (HBX.out (.inl rfl)))))
            clear HBD HNX HBX HBY
            go_wp2_with fail
            refine (HTG.out _).mono ?_
            rintro e w4 ⟨rfl, rfl⟩
            go_wp2
            go_returns
            exact ⟨by rw [HJ.out]; rfl, HA2.out⟩
          | false =>
            cases b2 with
            | true =>
              have HJ := hid (HBD.out (.inr (.inl (HBX.out (.inr rfl)))))
              clear HBD HNX HBX HBY
              go_wp2_with fail
              refine (HTG.out _).mono ?_
              rintro e w4 ⟨rfl, rfl⟩
              go_wp2
              go_returns
              exact ⟨by rw [HJ.out]; rfl, HA2.out⟩
            | false =>
              have HOB := hid (HBY.out rfl rfl)
              by_cases hbig : 16777216 < d.size
              · have HJ := hid (HBD.out (.inr (.inr hbig)))
                have hb3 : (16777216 : Int) < (d.size : Int) := by omega
                clear HBD HNX HBX HBY hbig
                go_wp2_with fail
                refine (HTG.out _).mono ?_
                rintro e w4 ⟨rfl, rfl⟩
                go_wp2
                go_returns
                exact ⟨by rw [HJ.out]; rfl, HA2.out⟩
              · have HN := hid (HNX.out rfl HOB.out (by omega))
                have hb3 : ¬ (16777216 : Int) < (d.size : Int) := by omega
                have HPD := hid (fun W => padded_any d.size (by omega) W)
                have hu := up4_lt d.size
                obtain ⟨ud, hud⟩ : ∃ ud, up4 d.size = ud := ⟨_, rfl⟩
                rw [hud] at HPD HO1 hu
                clear HBD HNX HBX HBY hud
                have hsum : IntKind.i64.wrap ((of : Int) + (ud : Int)) = ((of + ud : Nat) : Int) := by rw [IntWalk.i64_in _ (by omega)]; omega
                go_wp2_with fail
                refine (HTG.out _).mono ?_
                rintro e w4 ⟨rfl, rfl⟩
                go_wp2_with fail
                refine (HPD.out _).mono ?_
                rintro e w5 ⟨rfl, rfl⟩
                go_wp2
                exact ⟨⟨k + 1, by omega, by go_num, by rw [HP1.out], by rw [HO1.out, Int.natCast_add], HN, HA2.out⟩, by simp [intOf]; omega⟩
      · obtain rfl : k = len := by omega
        have HM := hid (show mayB l = decide (offN l k < 1073741824) from by rw [← hll.out] at HG ⊢; exact HG.out.may (by rw [hll.out]; exact h1) (by rw [hll.out]; exact h9))
        have hofz : offN l k ≤ 16777220000 := by have := HOF.out; omega
        obtain ⟨of, hof⟩ : ∃ of, offN l k = of := ⟨_, rfl⟩
        rw [hof] at HM hofz
        rw [hof]
        clear hw HG HOF hof
        have hdec : decide ((of : Int) ≤ 1073741823) = decide (of < 1073741824) := by
          by_cases h0 : of < 1073741824
          · rw [decide_eq_true h0, decide_eq_true (by omega)]
          · rw [decide_eq_false h0, decide_eq_false (by omega)]
        go_wp2
        go_returns
        exact ⟨by rw [HM.out, ← hdec]; rfl, HW.out⟩
end Go.Proofs.Ytciaebhkemdilab

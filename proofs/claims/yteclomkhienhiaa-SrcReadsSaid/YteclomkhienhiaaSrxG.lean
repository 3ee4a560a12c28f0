/- What each call of a source does, for both sources; how a slice of asks that came in is read. -/
import Derived.Test.YteclomkhienhiaaSrxF
import Derived.Test.YteclomkhienhiaaLawKit
import Derived.Deep.Slices
namespace Go.Proofs.Yteclomkhienhiaa
open Go.RowKit Go.Conc Go.ChangeShapes Go.WideShapes Go.ChangeAt Go.Deep
set_option linter.unusedVariables false
theorem SrcF.keep {F G : Nat → Prop} {w w' : World} {g : Nat} {s : ByteArray} {l : List (Int × Int)} {sp : List (Nat × Nat)} (h : SrcF F w g s l sp) (hk : Keeps G w w') (hd : ∀ i, F i → ¬ G i) : SrcF F w' g s l sp := by
  obtain ⟨c, rd, h1, h2, h3, h4, h5, h6, h7⟩ := h
  exact ⟨c, rd, h1, h2, h3, h4, hk.has h5 (hd _ h1), hk.script h6 (hd _ h2), own_keep h7 fun b hb => hk.block b (own_lt h7 hb) (hd _ (h3 b hb))⟩
theorem SrcF.small {F : Nat → Prop} {w : World} {g : Nat} {s : ByteArray} {l : List (Int × Int)} {sp : List (Nat × Nat)} (h : SrcF F w g s l sp) : SrcF (fun i => F i ∧ i < w.heap.size) w g s l sp := by
  obtain ⟨c, rd, h1, h2, h3, h4, h5, h6, h7⟩ := h
  exact ⟨c, rd, ⟨h1, h5.lt⟩, ⟨h2, h6.lt⟩, fun b hb => ⟨h3 b hb, own_lt h7 hb⟩, h4, h5, h6, h7⟩
/-- What a call of src's source does. -/
def SrcDoes (f : FuncId) (s : ByteArray) (l : List (Int × Int)) (sp : List (Nat × Nat)) (a n : Int) (V : ByteArray) (E : Int) (l2 : List (Int × Int)) (sp2 : List (Nat × Nat)) : Prop :=
  ∀ (F : Nat → Prop) (g : Nat) (W : World), SrcF F W g s l sp → (∀ i, F i → i < W.heap.size) → Calls Try.prog f #[.pointer (some ⟨g, 0, none⟩), .int .i64 a, .int .i64 n] W fun e w' =>
    e = .returned (.tuple #[.string V, .int .i64 E]) ∧ ∃ F' : Nat → Prop, SrcF F' w' g s l2 sp2 ∧ (∀ i, F' i → i < w'.heap.size) ∧ Keeps F W w' ∧ ∀ i, F' i → F i ∨ W.heap.size ≤ i
/-- What a call of the document's source does. -/
def SrxDoes (f : FuncId) (s : ByteArray) (l : List (Int × Int)) (sp : List (Nat × Nat)) (a n : Int) (V : ByteArray) (E : Int) (l2 : List (Int × Int)) (sp2 : List (Nat × Nat)) : Prop :=
  ∀ (F : Nat → Prop) (g : Nat) (W : World), Srx F W g s l sp → Calls Try.prog f #[.pointer (some ⟨g, 0, none⟩), .int .i64 a, .int .i64 n] W fun e w' =>
    e = .returned (.tuple #[.string V, .int .i64 E]) ∧ ∃ F' : Nat → Prop, Srx F' w' g s l2 sp2 ∧ Keeps F W w' ∧ ∀ i, F' i → F i ∨ W.heap.size ≤ i
theorem src_read (s : ByteArray) (hs : s.size ≤ 140737488351232) (l : List (Int × Int)) (hok : OkAll l) (sp : List (Nat × Nat)) (hsp : sp.length + l.length ≤ 999999999) (a n : Int) (a1 : -9223372036854775808 ≤ a) (a2 : a ≤ 9223372036854775807) (n1 : -9223372036854775808 ≤ n) (n2 : n ≤ 9223372036854775807) : SrcDoes 14 s l sp a n (rdAll s l a n).1 (rdAll s l a n).2.1 (rdAll s l a n).2.2 (rdSp sp a.toNat (rdAll s l a n).1) := fun F g W h hl => by
  refine (readAt_any F g s hs sp (by omega) l hok a n W h).mono ?_
  rintro e w' ⟨F', he, h1, h2, h3⟩
  exact ⟨he, F', h1, fun i hi => by
    rcases h3 i hi with h | h
    · have := hl i h; have := h2.size; omega
    · exact h.2, h2, fun i hi => by
    rcases h3 i hi with h | h
    · exact .inl h
    · exact .inr h.1⟩
theorem srx_read (s : ByteArray) (hs : s.size ≤ 140737488351232) (l : List (Int × Int)) (hok : OkAll l) (sp : List (Nat × Nat)) (hsp : sp.length + l.length ≤ 999999999) (a n : Int) (a1 : -9223372036854775808 ≤ a) (a2 : a ≤ 9223372036854775807) (n1 : -9223372036854775808 ≤ n) (n2 : n ≤ 9223372036854775807) : SrxDoes 15 s l sp a n (rdAll s l a n).1 (rdAll s l a n).2.1 (rdAll s l a n).2.2 (rdSp sp a.toNat (rdAll s l a n).1) := fun F g W h => rx_any F g s hs sp (by omega) l hok a n a2 W h
/-- Full, refused or not. -/
def fullAll (s : ByteArray) (l : List (Int × Int)) (a n : Int) (sp : List (Nat × Nat)) : ByteArray × Int × List (Int × Int) × List (Nat × Nat) :=
  if askB a n then fullGo s a.toNat n.toNat (l.length + 1) l ⟨#[]⟩ sp else (⟨#[]⟩, 1, l, sp)
theorem src_full (s : ByteArray) (hs : s.size ≤ 140737488351232) (l : List (Int × Int)) (hok : OkAll l) (sp : List (Nat × Nat)) (hsp : sp.length + l.length ≤ 999999999) (a n : Int) (a1 : -9223372036854775808 ≤ a) (a2 : a ≤ 9223372036854775807) (n1 : -9223372036854775808 ≤ n) (n2 : n ≤ 9223372036854775807) : SrcDoes 12 s l sp a n (fullAll s l a n sp).1 (fullAll s l a n sp).2.1 (fullAll s l a n sp).2.2.1 (fullAll s l a n sp).2.2.2 := fun F g W h hl => by
  unfold fullAll
  cases hk : askB a n with
  | false =>
    simp only [Bool.false_eq_true, if_false]
    have hb : a < 0 ∨ n < 0 ∨ 1048576 < n := by have := of_decide_eq_false hk; omega
    refine (full_bad g a n a1 a2 n1 n2 hb W).mono ?_
    rintro e w' ⟨he, hw⟩
    exact ⟨he, F, h.keep (Keeps.of_bw (F := fun _ => False) hw) (fun _ _ h => h), fun i hi => Nat.lt_of_lt_of_le (hl i hi) hw.size, Keeps.of_bw hw, fun i hi => .inl hi⟩
  | true =>
    simp only [if_true]
    have hb := of_decide_eq_true hk
    obtain ⟨p, rfl⟩ := Int.eq_ofNat_of_zero_le hb.1
    obtain ⟨q, rfl⟩ := Int.eq_ofNat_of_zero_le hb.2.1
    refine (full_ok F g s hs sp l hsp hok p q (by omega) (by omega) W h).mono ?_
    rintro e w' ⟨he, h1, h2⟩
    exact ⟨he, _, h1.small, fun i hi => hi.2, h2, fun i hi => hi.1⟩
theorem srx_full (s : ByteArray) (hs : s.size ≤ 140737488351232) (l : List (Int × Int)) (hok : OkAll l) (sp : List (Nat × Nat)) (hsp : sp.length + l.length ≤ 999999999) (a n : Int) (a1 : -9223372036854775808 ≤ a) (a2 : a ≤ 9223372036854775807) (n1 : -9223372036854775808 ≤ n) (n2 : n ≤ 9223372036854775807) : SrxDoes 13 s l sp a n (fullAll s l a n sp).1 (fullAll s l a n sp).2.1 (fullAll s l a n sp).2.2.1 (fullAll s l a n sp).2.2.2 := fun F g W h => by
  unfold fullAll
  cases hk : askB a n with
  | false =>
    simp only [Bool.false_eq_true, if_false]
    exact rxfull_bad F g s l sp a n hk W h
  | true =>
    simp only [if_true]
    have hb := of_decide_eq_true hk
    obtain ⟨p, rfl⟩ := Int.eq_ofNat_of_zero_le hb.1
    obtain ⟨q, rfl⟩ := Int.eq_ofNat_of_zero_le hb.2.1
    exact rxfull_ok F g s hs sp l hsp hok p q (by omega) (by omega) W h
theorem rdAll_l (s : ByteArray) (l : List (Int × Int)) (a n : Int) : (rdAll s l a n).2.2.length ≤ l.length ∧ (OkAll l → OkAll (rdAll s l a n).2.2) := by
  unfold rdAll
  split
  · exact ⟨Nat.le_refl _, fun h => h⟩
  · split
    · exact ⟨by simp, fun h x hx => h x (List.mem_of_mem_tail hx)⟩
    · exact ⟨by simp, fun h x hx => h x (List.mem_of_mem_tail hx)⟩
theorem fullGo_l (s : ByteArray) (p n : Nat) : ∀ (k : Nat) (l : List (Int × Int)) (acc : ByteArray) (sp : List (Nat × Nat)), (fullGo s p n k l acc sp).2.2.1.length ≤ l.length ∧ (OkAll l → OkAll (fullGo s p n k l acc sp).2.2.1) ∧ (fullGo s p n k l acc sp).2.2.2.length ≤ sp.length + k
  | 0, l, acc, sp => ⟨Nat.le_refl _, fun h => h, Nat.le_refl _⟩
  | k + 1, l, acc, sp => by
    have h1 := rdAll_l s l (p + acc.size : Nat) (n - acc.size : Nat)
    have h2 := rdSp_len sp (p + acc.size) (rdAll s l (p + acc.size : Nat) (n - acc.size : Nat)).1
    rw [fullGo]
    split
    · exact ⟨h1.1, h1.2, by simp only; omega⟩
    · split
      · exact ⟨h1.1, h1.2, by simp only; omega⟩
      · have h3 := fullGo_l s p n k (rdAll s l (p + acc.size : Nat) (n - acc.size : Nat)).2.2 (acc ++ (rdAll s l (p + acc.size : Nat) (n - acc.size : Nat)).1) (rdSp sp (p + acc.size) (rdAll s l (p + acc.size : Nat) (n - acc.size : Nat)).1)
        exact ⟨Nat.le_trans h3.1 h1.1, fun h => h3.2.1 (h1.2 h), by omega⟩
theorem fullAll_l (s : ByteArray) (l : List (Int × Int)) (a n : Int) (sp : List (Nat × Nat)) : (fullAll s l a n sp).2.2.1.length ≤ l.length ∧ (OkAll l → OkAll (fullAll s l a n sp).2.2.1) ∧ (fullAll s l a n sp).2.2.2.length ≤ sp.length + (l.length + 1) := by
  unfold fullAll
  split
  · exact fullGo_l _ _ _ _ _ _ _
  · exact ⟨Nat.le_refl _, fun h => h, by simp only; omega⟩
/-- An ask: where, how many, and whether all. -/
structure AskR where
  a : Int
  n : Int
  f : Bool
def InI64 (x : Int) : Prop := -9223372036854775808 ≤ x ∧ x ≤ 9223372036854775807
def AsksAt (w : World) (a : Option Addr) (l : List AskR) : Prop :=
  ∀ i (h : i < l.length), ∃ b off, a = some ⟨b, off, none⟩ ∧ b < w.heap.size ∧ w.cell? ⟨b, off + i * 3, none⟩ = some (.int .i64 (l[i]'h).a) ∧ w.cell? ⟨b, off + i * 3 + 1, none⟩ = some (.int .i64 (l[i]'h).n) ∧ w.cell? ⟨b, off + i * 3 + 2, none⟩ = some (.bool (l[i]'h).f) ∧ InI64 (l[i]'h).a ∧ InI64 (l[i]'h).n
theorem AsksAt.below {w w' : World} {a : Option Addr} {l : List AskR} (h : AsksAt w a l) (hb : Below w.heap.size w w') : AsksAt w' a l := fun i hi => by
  obtain ⟨b, off, e, hl, h0, h1, h2, h3⟩ := h i hi
  exact ⟨b, off, e, Nat.lt_of_lt_of_le hl hb.size, (hb.cell (p := ⟨b, _, none⟩) hl).trans h0, (hb.cell (p := ⟨b, _, none⟩) hl).trans h1, (hb.cell (p := ⟨b, _, none⟩) hl).trans h2, h3⟩
theorem cells_ask : Try.prog.cellsOf 35 = 3 := by kernel_rfl
theorem in_i64 {x : Int} (h : (Lit.int .i64 x).wf = true) : InI64 x := by
  simp [Lit.wf, IntKind.min, IntKind.max, IntKind.bits, IntKind.signed] at h
  unfold InI64
  omega
section
variable {H : Type} {enc : TypeId × Value → H} {w : World} {base : Nat} {spare : Nat → Bool} {held : Bool}
set_option maxRecDepth 100000 in
theorem open_asks {n : Nat} {u : Value} {y : DataW H × List MemPlace} (h : DataW.trod enc Try.prog w base spare held n 23 [u] = some y) :
    ∃ (a : Option Addr) (len cap : Nat) (l : List AskR), u = .slice a len cap ∧ len ≤ 9223372036854775807 ∧ l.length = len ∧ AsksAt w a l := by
  rcases open_slice Try.underlying23 h with ⟨hcs, _⟩ | ⟨a, len, cap, mm, nn, D, Pl, hcs, _, hl, hcm, hm, _, hi⟩
  · simp only [List.cons.injEq, and_true] at hcs
    exact ⟨none, 0, 0, [], hcs, by omega, rfl, fun i hi => by simp at hi⟩
  · simp only [List.cons.injEq, and_true] at hcs
    have hlm : len ≤ mm := by rw [hm]; split <;> omega
    by_cases hz : len = 0
    · exact ⟨some a, len, cap, [], hcs, by omega, by simp [hz], fun i hi => by simp at hi⟩
    have hsp : a.spot = none := by
      obtain ⟨cs', hc, _⟩ := hi 0 (by omega)
      rw [cells_ask] at hc
      obtain ⟨_, hcl, hat⟩ := World.cells?_some hc
      match cs', hcl with
      | [v0, v1, v2], _ =>
        have c0 := hat 0 (by omega)
        simp only [List.getElem?_cons_zero] at c0
        simpa [Addr.add] using World.cell?_spot c0
    obtain ⟨b, off, sp⟩ := a
    obtain rfl : sp = none := hsp
    have key : ∀ i, i < len → ∃ p : AskR, ∃ b' off', some (⟨b, off, none⟩ : Addr) = some ⟨b', off', none⟩ ∧ b' < w.heap.size ∧ w.cell? ⟨b', off' + i * 3, none⟩ = some (.int .i64 p.a) ∧ w.cell? ⟨b', off' + i * 3 + 1, none⟩ = some (.int .i64 p.n) ∧ w.cell? ⟨b', off' + i * 3 + 2, none⟩ = some (.bool p.f) ∧ InI64 p.a ∧ InI64 p.n := fun i hlt => by
      obtain ⟨cs', hc, ht⟩ := hi i (by omega)
      rw [cells_ask] at hc
      obtain ⟨_, hcl, hat⟩ := World.cells?_some hc
      obtain ⟨xs, n', _, hy, hlen, hxl, hf⟩ := DataW.trod_struct Try.underlying35 ht
      match cs', hcl with
      | [v0, v1, v2], _ =>
        have h0 := hf 0 _ rfl
        have h1 := hf 1 _ rfl
        have h2 := hf 2 _ rfl
        have e0 : xs[0]? = some (xs[0]'(by rw [hxl]; decide)) := List.getElem?_eq_getElem _
        have e1 : xs[1]? = some (xs[1]'(by rw [hxl]; decide)) := List.getElem?_eq_getElem _
        have e2 : xs[2]? = some (xs[2]'(by rw [hxl]; decide)) := List.getElem?_eq_getElem _
        rw [e0] at h0
        rw [e1] at h1
        rw [e2] at h2
        obtain ⟨x0, hx0, _, hw0⟩ := DataW.trod_int Try.underlying3 h0
        obtain ⟨x1, hx1, _, hw1⟩ := DataW.trod_int Try.underlying3 h1
        obtain ⟨x2, hx2, _⟩ := DataW.trod_bool Try.underlying4 h2
        have c0 := hat 0 (by omega)
        have c1 := hat 1 (by omega)
        have c2 := hat 2 (by omega)
        have v0e : v0 = .int .i64 x0 := by simpa [show Try.prog.cellsOf 3 = 1 from by kernel_rfl] using hx0
        have v1e : v1 = .int .i64 x1 := by simpa [show Try.prog.cellsOf 3 = 1 from by kernel_rfl] using hx1
        have v2e : v2 = .bool x2 := by simpa [show Try.prog.cellsOf 4 = 1 from by kernel_rfl] using hx2
        subst v0e v1e v2e
        simp only [List.getElem?_cons_zero] at c0
        simp only [List.getElem?_cons_succ, List.getElem?_cons_zero] at c1 c2
        have aj : ∀ j, (Addr.add (Addr.add ⟨b, off, none⟩ (i * 3)) j) = ⟨b, off + i * 3 + j, none⟩ := fun j => by
          unfold Addr.add
          by_cases hz : i * 3 = 0 <;> by_cases hj : j = 0 <;> simp [hz, hj]
        rw [aj] at c0 c1 c2
        refine ⟨⟨x0, x1, x2⟩, b, off, rfl, ?_, by simpa using c0, c1, c2, in_i64 hw0, in_i64 hw1⟩
        rcases Nat.lt_or_ge b w.heap.size with hlt' | hge
        · exact hlt'
        · simp [World.cell?, Array.getElem?_eq_none hge] at c0
    have hch : ∃ f : Nat → AskR, ∀ i, i < len → ∃ b' off', some (⟨b, off, none⟩ : Addr) = some ⟨b', off', none⟩ ∧ b' < w.heap.size ∧ w.cell? ⟨b', off' + i * 3, none⟩ = some (.int .i64 (f i).a) ∧ w.cell? ⟨b', off' + i * 3 + 1, none⟩ = some (.int .i64 (f i).n) ∧ w.cell? ⟨b', off' + i * 3 + 2, none⟩ = some (.bool (f i).f) ∧ InI64 (f i).a ∧ InI64 (f i).n :=
      ⟨fun i => if h : i < len then (key i h).choose else ⟨0, 0, false⟩, fun i h => by
        have := (key i h).choose_spec
        simpa [h] using this⟩
    obtain ⟨f, hf⟩ := hch
    refine ⟨some ⟨b, off, none⟩, len, cap, (List.range len).map f, hcs, by unfold maxLen at hcm; omega, by simp, fun i hi => ?_⟩
    have hi' : i < len := by simpa using hi
    have := hf i hi'
    simpa using this
end
end Go.Proofs.Yteclomkhienhiaa

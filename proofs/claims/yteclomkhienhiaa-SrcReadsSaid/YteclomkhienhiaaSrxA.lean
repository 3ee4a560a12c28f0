/- A slice of steps that came in, appended to a row of the call's own; what the document's May returns. -/
import Derived.Test.YteclomkhienhiaaSrcI
import Derived.Test.YteclomkhienhiaaStepKit
import Derived.Laws.AppendOwnNone
namespace Go.Proofs.Yteclomkhienhiaa
open Go.RowKit
set_option linter.unusedVariables false
theorem stepInfo : (Try.prog.info? 33).map (fun i => (i.zero, i.size, i.bytes)) = some (some (.agg #[.int .i64 0, .int .i64 0]), 2, 16) := by kernel_rfl
def stepCells (l : List (Int × Int)) : List Value := l.flatMap fun x => [.int .i64 x.1, .int .i64 x.2]
theorem stepCells_len (l : List (Int × Int)) : (stepCells l).length = l.length * 2 := by
  induction l with
  | nil => rfl
  | cons x l ih =>
    have e : stepCells (x :: l) = [.int .i64 x.1, .int .i64 x.2] ++ stepCells l := by simp [stepCells]
    rw [e, List.length_append, ih, List.length_cons]
    simp only [List.length_cons, List.length_nil]
    omega
theorem stepCells_get (l : List (Int × Int)) (i : Nat) (h : i < l.length) : (stepCells l)[i * 2]? = some (.int .i64 l[i].1) ∧ (stepCells l)[i * 2 + 1]? = some (.int .i64 l[i].2) := by
  induction l generalizing i with
  | nil => simp at h
  | cons x l ih =>
    have e : stepCells (x :: l) = .int .i64 x.1 :: .int .i64 x.2 :: stepCells l := by simp [stepCells]
    rw [e]
    cases i with
    | zero => exact ⟨rfl, rfl⟩
    | succ i =>
      have := ih i (by simpa using h)
      rw [show (i + 1) * 2 = i * 2 + 1 + 1 by omega]
      simpa using this
theorem steps_own {w : World} {ao : Option Addr} {n cap : Nat} {l : List (Int × Int)} (h : w.ownsRow 0 33 2 (.slice ao n cap) l.length (stepCells l)) : StepsAt w ao l := fun i hi => by
  rcases h.2 with ⟨h1, h2⟩ | ⟨g, cap', cur, h1, h2⟩
  · omega
  · injection h1 with e1 e2 e3
    subst e1
    subst e2
    have hc := h.cells (g := g) rfl
    have hlt : g < w.heap.size := own_lt h (b := g) rfl
    have key : ∀ j u, (stepCells l)[j]? = some u → w.cell? ⟨g, j, none⟩ = some u := fun j u hu => by
      have := hc j u hu
      have ea : (Addr.add ⟨g, 0, none⟩ j) = ⟨g, j, none⟩ := by
        unfold Addr.add; by_cases hz : j = 0 <;> simp [hz]
      rwa [ea] at this
    obtain ⟨h3, h4⟩ := stepCells_get l i hi
    exact ⟨g, 0, rfl, hlt, by simpa using key _ _ h3, by simpa using key _ _ h4⟩
/-- append(v, steps...) -/
theorem wpList_app_steps {w : World} {ops : Array Oper} {rest : List Oper} {o : Oper} {a : Act} {Q : Exit → Act → World → Prop} (hgd : o.guard = none) (s x : Operand)
    (ho : o.op = .call { callee := .builtin .append, args := #[s, x], argTypes := #[22, 22] }) {A : Option Addr} {len cap : Nat} {l : List (Int × Int)} (hs : a.eval s = .slice none 0 0) (hx : a.eval x = .slice A len cap)
    (hA : A = none → cap = 0) (hst : StepsAt w A l) (hll : l.length = len) (hb : len * 16 ≤ 140737488355328)
    (h : ∀ v' w', w'.ownsRow 0 33 2 v' l.length (stepCells l) → Bw w w' → (∀ b, v'.ownBlock = some b → w.heap.size ≤ b) → wpList Try.prog ops Q rest (a.put o.dst v') w') : wpList Try.prog ops Q (o :: rest) a w := by
  obtain ⟨i0, hi, hz0, hz1, hz2⟩ := info_parts stepInfo
  have hnil : w.ownsRow w.heap.size 33 2 (.slice none 0 0) 0 [] := ⟨rfl, .inl ⟨rfl, rfl⟩⟩
  cases A with
  | none =>
    have hl0 : l = [] := by
      cases l with
      | nil => rfl
      | cons y l => obtain ⟨b, off, e, _⟩ := hst 0 (by simp); cases e
    subst hl0
    have : len = 0 := by rw [← hll]; rfl
    subst this
    rw [hA rfl] at hx
    exact wpList_append_own_none hgd s x _ ho w.heap.size _ i0 2 Try.underlying22 hi _ 0 [] hs hnil hx (by
      exact h _ _ ⟨rfl, .inl ⟨rfl, rfl⟩⟩ (Bw.refl _) (fun b hb => by simp [Value.ownBlock] at hb))
  | some ad =>
    refine wpList_append_own_at _ hgd s x _ ho w.heap.size _ i0 (.agg #[.int .i64 0, .int .i64 0]) 2 16 Try.underlying22 hi hz0 hz1 hz2 rfl (by decide) (.slice none 0 0) 0 [] hs hnil ad len cap (stepCells l) hx (by rw [stepCells_len, hll]) (fun j u hj => ?_) (fun u hu => ?_) (by unfold maxLen; omega) (by omega) (Nat.le_refl _) ?_
    · have hj2 : j / 2 < l.length := by
        have := (List.getElem?_eq_some_iff.1 hj).1
        rw [stepCells_len] at this
        omega
      obtain ⟨b, off, e, _, c0, c1⟩ := hst (j / 2) hj2
      obtain rfl : ad = ⟨b, off, none⟩ := Option.some.inj e
      obtain ⟨g0, g1⟩ := stepCells_get l (j / 2) hj2
      have ea : (Addr.add ⟨b, off, none⟩ j) = ⟨b, off + j, none⟩ := by
        unfold Addr.add; by_cases hz : j = 0 <;> simp [hz]
      rw [ea]
      rcases Nat.mod_two_eq_zero_or_one j with hm | hm
      · have e2 : j = j / 2 * 2 := by omega
        rw [← e2] at c0 g0
        rw [c0, ← g0, hj]
      · have e2 : j = j / 2 * 2 + 1 := by omega
        rw [← e2] at g1
        rw [show off + j = off + j / 2 * 2 + 1 by omega, c1, ← g1, hj]
    · simp only [stepCells, List.mem_flatMap] at hu
      obtain ⟨y, _, hy⟩ := hu
      simp at hy
      rcases hy with rfl | rfl <;> rfl
    · intro v' w' ho' hg' _ hat
      rw [Nat.zero_add, List.nil_append] at ho'
      refine h v' w' ⟨ho'.1.trans (by rw [hll]), ?_⟩ ⟨hg'.os, hg'.tape, hg'.output, hg'.size, fun i hi => hg'.block i hi (by simp [Value.ownBlock])⟩ (fun b hb => ?_)
      · rw [hll]
        rcases ho'.2 with h | ⟨g, cap', cur, e1, _, e3⟩
        · exact .inl h
        · exact .inr ⟨g, cap', cur, e1, Nat.zero_le _, e3⟩
      · rcases hat with h | h
        · rw [h] at hb; simp [Value.ownBlock] at hb
        · rw [h] at hb; exact Nat.le_of_eq (Option.some.inj hb)
theorem OkAll.snoc {l : List (Int × Int)} {j : Nat} (h : OkAll (l.take j)) (hj : j < l.length) (hx : okStep l[j]) : OkAll (l.take (j + 1)) := by
  rw [List.take_succ_eq_append_getElem hj]
  intro x hx2
  rcases List.mem_append.1 hx2 with h2 | h2
  · exact h x h2
  · rw [List.mem_singleton.1 h2]; exact hx
theorem newOk_bad {l : List (Int × Int)} {j : Nat} (hj : j < l.length) (hx : ¬ okStep l[j]) : newOk l = false := by
  unfold newOk
  rw [Bool.and_eq_false_iff]
  right
  rw [List.all_eq_false]
  exact ⟨l[j], List.getElem_mem _, by simpa using hx⟩
theorem newOk_end {l : List (Int × Int)} (h : OkAll l) : newOk l = decide (l.length ≤ 1000) := by
  unfold newOk
  rw [List.all_eq_true.2 (fun x hx => by simpa using h x hx), Bool.and_true]
set_option maxRecDepth 100000 in
set_option maxHeartbeats 1000000 in
theorem may_any (a : Option Addr) (len cap : Nat) (hlen : len ≤ 9223372036854775807) (l : List (Int × Int)) (hll : Hid (l.length = len)) (w : World) (hst : StepsAt w a l) :
    Calls Try.prog 38 #[.slice a len cap] w fun e w' => e = .returned (.bool (newOk l)) ∧ Bw w w' := by
  have HST := hid hst
  clear hst
  go_enter Try.func38, Try.ntmps38
  go_wp2
  go_loopw [3] (fun i wr => ∃ j : Nat, j ≤ len ∧ i = .int .i64 j ∧ OkAll (l.take j) ∧ Bw w wr) (fun i _ => len - (intOf i).toNat)
  case atStart => exact ⟨0, Nat.zero_le _, rfl, fun x hx => by simp at hx, Bw.refl w⟩
  case round =>
    obtain ⟨j, hj, rfl, hok, hbw⟩ := hrel
    have HOK := hid hok
    have HBW := hid hbw
    clear hok hbw
    by_cases hlt : j < len
    · have hjl : j < l.length := by rw [hll.out]; exact hlt
      obtain ⟨b, off, rfl, hb, c0, c1⟩ := (HST.out.below HBW.out) j hjl
      obtain ⟨x0, x1, hx⟩ : ∃ x0 x1, l[j] = (x0, x1) := ⟨_, _, rfl⟩
      rw [hx] at c0 c1
      have HX := hid hx
      clear hx
      by_cases hs : okStep (x0, x1)
      · have HS := hid hs
        have hs2 : (x0 = 0 ∨ x0 = 2) ∧ x1 = 0 ∨ x0 = 1 ∧ 0 ≤ x1 := hs
        have HN := hid (HOK.out.snoc hjl (by rw [HX.out]; exact hs))
        clear hs
        have t1 : decide (x0 < 0) = false := by simp; omega
        have t2 : decide (2 < x0) = false := by simp; omega
        have t3 : decide (x1 < 0) = false := by simp; omega
        have hor : (x0 != 1) = false ∨ ((x0 != 1) = true ∧ (x1 != 0) = false) := by
          by_cases h : x0 = 1
          · left; simp [h]
          · right; simp [h]; omega
        clear hs2
        rcases hor with t4 | ⟨t4, t5⟩
        all_goals
          go_wp2
          go_roundw
          case rel => exact ⟨j + 1, by omega, by go_num, HN.out, HBW.out.alloc _⟩
          case measure => simp [intOf]; omega
      · have HBAD := hid (newOk_bad hjl (by rw [HX.out]; exact hs))
        have hs2 : ¬ ((x0 = 0 ∨ x0 = 2) ∧ x1 = 0 ∨ x0 = 1 ∧ 0 ≤ x1) := hs
        clear hs
        have hor : decide (x0 < 0) = true ∨ (decide (x0 < 0) = false ∧ decide (2 < x0) = true) ∨ (decide (x0 < 0) = false ∧ decide (2 < x0) = false ∧ decide (x1 < 0) = true) ∨ (decide (x0 < 0) = false ∧ decide (2 < x0) = false ∧ decide (x1 < 0) = false ∧ (x0 != 1) = true ∧ (x1 != 0) = true) := by
          simp only [decide_eq_true_eq, decide_eq_false_iff_not, bne_iff_ne, ne_eq]
          omega
        clear hs2
        rcases hor with t1 | ⟨t1, t2⟩ | ⟨t1, t2, t3⟩ | ⟨t1, t2, t3, t4, t5⟩
        all_goals
          go_wp2
          go_returns
          exact ⟨ret_bool HBAD.out.symm, HBW.out.alloc _⟩
    · obtain rfl : j = len := by omega
      have hok2 := HOK.out
      rw [List.take_of_length_le (by rw [hll.out]; exact Nat.le_refl _)] at hok2
      have hE := newOk_end hok2
      rw [hll.out] at hE
      have HE := hid hE
      clear hok2 hE hlt
      go_wp2
      go_returns
      refine ⟨ret_bool ?_, HBW.out⟩
      rw [HE.out, Bool.eq_iff_iff]
      simp only [decide_eq_true_eq]
      omega
end Go.Proofs.Yteclomkhienhiaa

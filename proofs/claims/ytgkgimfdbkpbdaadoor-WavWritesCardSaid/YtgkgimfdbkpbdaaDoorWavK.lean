/- Chunks appended to a row of the call's own. -/
import Derived.Test.YtgkgimfdbkpbdaaDoorWavB
import Derived.Laws.AppendOwnNone
namespace Go.Proofs.YtgkgimfdbkpbdaaDoor
open Go.RowKit
set_option linter.unusedVariables false
set_option linter.unusedSimpArgs false
theorem chk_news {w : World} {b off : Nat} {l : List ChkR} (hc : ChkAt w (some ⟨b, off, none⟩) l) : ∀ j u, (chkCells l)[j]? = some u → w.cell? ((⟨b, off, none⟩ : Addr).add j) = some u := fun j u hu => by
  have hj : j < l.length * 2 := by
    rw [← chkCells_len]
    exact (List.getElem?_eq_some_iff.1 hu).1
  have hi : j / 2 < l.length := by omega
  have hr : j % 2 < 2 := by omega
  have h := chkCells_get l (j / 2) hi (j % 2) hr
  rw [show j / 2 * 2 + j % 2 = j by omega, hu] at h
  obtain ⟨b', o', e, _, h0, h1, _⟩ := hc (j / 2) hi
  injection e with e
  injection e with e1 e2
  subst e1 e2
  have ha : (⟨b, off, none⟩ : Addr).add j = ⟨b, off + j, none⟩ := by
    unfold Addr.add
    by_cases hz : j = 0 <;> simp [hz]
  rw [ha]
  rcases (show j % 2 = 0 ∨ j % 2 = 1 by omega) with h2 | h2
  · rw [h2] at h
    have e3 : some (Value.string l[j / 2].typ) = some u := h.symm
    rw [← e3, ← h0]
    congr 2
    omega
  · rw [h2] at h
    have e3 : some (Value.string l[j / 2].dat) = some u := h.symm
    rw [← e3, ← h1]
    congr 2
    omega
theorem chk_one (l : List ChkR) : ∀ u ∈ chkCells l, u.oneCell' = true := fun u hu => by
  unfold chkCells at hu
  rw [List.mem_flatMap] at hu
  obtain ⟨c, _, hu⟩ := hu
  unfold chkCell at hu
  simp at hu
  rcases hu with rfl | rfl <;> rfl
theorem app_chk {ty : TypeId} (w : World) (B : Nat) (v : Value) (l1 l2 : List ChkR) (hown : w.ownsRow B 42 2 v l1.length (chkCells l1)) (A : Option Addr) (n cap : Nat) (hn : l2.length = n) (hA : A = none → n = 0 ∧ cap = 0) (hc : ChkAt w A l2) (hz : l1.length + n ≤ 1000000) (hB : B ≤ w.heap.size) :
    ∃ v' w', (Builtin.append_ #[23, 23] ty #[v, .slice A n cap]).run Tryd.prog w = .ok v' w' ∧ w'.ownsRow B 42 2 v' (l1 ++ l2).length (chkCells (l1 ++ l2)) ∧ w.grownBy w' v.ownBlock := by
  obtain ⟨i0, hinf, hz0, hz1, hz2⟩ := info_parts chkInfo
  cases A with
  | none =>
    obtain ⟨rfl, rfl⟩ := hA rfl
    obtain rfl : l2 = [] := List.length_eq_zero_iff.1 hn
    have hrun := run_append_owned_none (P := Tryd.prog) (w := w) B 23 ty 42 i0 2 Tryd.underlying23 hinf v l1.length (chkCells l1) hown
    refine ⟨v, w, hrun, ?_, ⟨rfl, rfl, rfl, Nat.le_refl _, fun _ _ _ => rfl⟩⟩
    rw [List.append_nil]
    exact hown
  | some ad =>
    have hnews : ∀ j u, (chkCells l2)[j]? = some u → w.cell? (ad.add j) = some u := by
      cases l2 with
      | nil => intro j u h; simp [chkCells] at h
      | cons x r =>
        obtain ⟨b, off, e, _⟩ := hc 0 (by simp)
        injection e with e
        subst e
        exact chk_news hc
    obtain ⟨v', w', hr, h1, h2, _⟩ := run_append_own_at (P := Tryd.prog) w B 23 ty 42 i0 (.agg #[.string ⟨#[]⟩, .string ⟨#[]⟩]) 2 32 Tryd.underlying23 hinf hz0 hz1 hz2 rfl (by decide) v l1.length (chkCells l1) hown ad n cap (chkCells l2) (by rw [chkCells_len, hn]) hnews (chk_one l2) (by unfold maxLen; omega) (by omega) hB
    refine ⟨v', w', hr, ?_, h2⟩
    rw [chkCells_app, List.length_append, hn]
    exact h1
theorem wpList_app_chk {w : World} {ops : Array Oper} {rest : List Oper} {o : Oper} {a : Act} {Q : Exit → Act → World → Prop} (hgd : o.guard = none) (s x : Operand)
    (ho : o.op = .call { callee := .builtin .append, args := #[s, x], argTypes := #[23, 23] }) (B : Nat) (v : Value) (l1 l2 : List ChkR) (hs : a.eval s = v) (hown : w.ownsRow B 42 2 v l1.length (chkCells l1)) (A : Option Addr) (n cap : Nat) (hx : a.eval x = .slice A n cap) (hn : l2.length = n) (hA : A = none → n = 0 ∧ cap = 0) (hc : ChkAt w A l2) (hz : l1.length + n ≤ 1000000) (hB : B ≤ w.heap.size)
    (h : ∀ v' w', w'.ownsRow B 42 2 v' (l1 ++ l2).length (chkCells (l1 ++ l2)) → w.grownBy w' v.ownBlock → wpList Tryd.prog ops Q rest (a.put o.dst v') w') : wpList Tryd.prog ops Q (o :: rest) a w := by
  refine wpList_plain hgd fun K hK => ?_
  obtain ⟨v', w', hr, k1, k2⟩ := app_chk (ty := o.type) w B v l1 l2 hown A n cap hn hA hc hz hB
  unfold Oper.wp execOp
  simp only [ho, resolve, invoke, builtin, Sem.run_bind, Sem.run_pure, Result.andThen_ok, List.map_toArray, List.map_cons, List.map_nil, hs, hx, hr]
  exact hK _ _ (h v' w' k1 k2)
/-- Two chunks laid by the call. -/
theorem two_own (w : World) (B : Nat) (hB : B ≤ w.heap.size) (a b c d : ByteArray) : (w.alloc (.cells #[.string a, .string b, .string c, .string d] 42)).ownsRow B 42 2 (.slice (some ⟨w.heap.size, 0, none⟩) 2 2) [(⟨a, b⟩ : ChkR), ⟨c, d⟩].length (chkCells [⟨a, b⟩, ⟨c, d⟩]) :=
  ⟨rfl, .inr ⟨w.heap.size, 2, _, rfl, hB, heap_alloc_new w _, Nat.le_refl _, by decide, rfl, rfl⟩⟩
end Go.Proofs.YtgkgimfdbkpbdaaDoor

/- How a slice of ints that came in is read: each cell; how long it may be. -/
import Derived.Test.YtcacnidlfjglbaaHufA0
import Derived.ProofKit
import Derived.OpenShut
import Derived.SizedLaws
import Derived.Deep.Slices
import Derived.Laws.AppendOwnNone
namespace Go.Proofs.Ytcacnidlfjglbaa
open Go.RowKit Go.ChangeShapes Go.WideShapes Go.ChangeAt
set_option linter.unusedVariables false
theorem zk_cells : Try.prog.cellsOf 3 = 1 := by kernel_rfl
section
variable {H : Type} {enc : TypeId × Value → H} {w : World} {base : Nat} {spare : Nat → Bool} {held : Bool}
theorem open_zs {n : Nat} {u : Value} {y : DataW H × List MemPlace} (h : DataW.trod enc Try.prog w base spare held n 22 [u] = some y) :
    ∃ (a : Option Addr) (len cap : Nat) (l : List Int), u = .slice a len cap ∧ len ≤ 9223372036854775807 ∧ l.length = len ∧ (a = none → cap = 0) ∧ ZsAt w a l := by
  rcases open_ints Try.underlying22 Try.underlying3 zk_cells h with ⟨hcs, _⟩ | ⟨a, len, cap, zs, hcs, _, hl, hm, hz, _, hc, _⟩
  · simp only [List.cons.injEq, and_true] at hcs
    exact ⟨none, 0, 0, [], hcs, by omega, rfl, fun _ => rfl, fun i hi => by simp at hi⟩
  · simp only [List.cons.injEq, and_true] at hcs
    have hlm : len ≤ zs.length := by rw [hz]; split <;> omega
    have hlt : (zs.take len).length = len := by simp; omega
    refine ⟨some a, len, cap, zs.take len, hcs, by unfold maxLen at hm; omega, hlt, (fun h => by cases h), fun i hi => ?_⟩
    have hil : i < len := by omega
    have hiz : i < zs.length := by omega
    have c := hc i hiz
    have c0 := hc 0 (by omega)
    have hsp : a.spot = none := by simpa [Addr.add] using World.cell?_spot c0
    obtain ⟨b, off, sp⟩ := a
    obtain rfl : sp = none := hsp
    have a0 : (Addr.add ⟨b, off, none⟩ i) = ⟨b, off + i, none⟩ := by
      unfold Addr.add; by_cases hz : i = 0 <;> simp [hz]
    rw [a0] at c
    refine ⟨b, off, rfl, ?_, ?_⟩
    · rcases Nat.lt_or_ge b w.heap.size with hlt' | hge
      · exact hlt'
      · simp [World.cell?, Array.getElem?_eq_none hge] at c
    · rw [c]; simp [List.getD_eq_getElem?_getD, hiz]
theorem zs_len {n : Nat} {a : Option Addr} {len cap : Nat} {d : DataW H} {pl : List MemPlace} {ts : List TypeId} {ds : List (DataW H)} {j : Nat} (hsz : (DataW.weightsEach Try.prog ts ds).all (· ≤ reachBytes) = true) (ht : ts[j]? = some 22) (hd : ds[j]? = some d)
    (h : DataW.trod enc Try.prog w base spare held n 22 [.slice a len cap] = some (d, pl)) : len * 8 ≤ 140737488355328 := by
  have hr : reachBytes = 140737488351232 := by decide
  have hb : Try.prog.bytesOf 3 = 8 := by kernel_rfl
  rcases open_ints Try.underlying22 Try.underlying3 zk_cells h with ⟨hcs, _⟩ | ⟨a', len', cap', zs, hcs, _, hl, hm, hz, hx, hc, _⟩
  · simp only [List.cons.injEq, and_true] at hcs
    injection hcs with _ h2 _
    omega
  · simp only [List.cons.injEq, and_true] at hcs
    injection hcs with _ h2 _
    simp only [Prod.mk.injEq] at hx
    obtain ⟨hx1, _⟩ := hx
    subst hx1
    have := sized_slice hsz ht hd Try.underlying22
    rw [hb, hr] at this
    have hlm : len' ≤ zs.length := by rw [hz]; split <;> omega
    have e1 : (lits (H := H) .i64 (zs.take len')).length = min len' zs.length := by simp [lits]
    rw [e1, Nat.min_eq_left hlm] at this
    omega
end
theorem zsInfo : (Try.prog.info? 3).map (fun i => (i.zero, i.size, i.bytes)) = some (some (.int .i64 0), 1, 8) := by kernel_rfl
def zsL (l : List Int) : List Value := l.map fun x => .int .i64 x
/-- append(nil, ints...) -/
theorem wpList_app_zs {w : World} {ops : Array Oper} {rest : List Oper} {o : Oper} {a : Act} {Q : Exit → Act → World → Prop} (hgd : o.guard = none) (s x : Operand)
    (ho : o.op = .call { callee := .builtin .append, args := #[s, x], argTypes := #[22, 22] }) {A : Option Addr} {len cap : Nat} {l : List Int} (hs : a.eval s = .slice none 0 0) (hx : a.eval x = .slice A len cap)
    (hA : A = none → cap = 0) (hst : ZsAt w A l) (hll : l.length = len) (hb : len * 8 ≤ 140737488355328)
    (h : ∀ v' w', w'.ownsRow w.heap.size 3 1 v' len (zsL l) → Bw w w' → wpList Try.prog ops Q rest (a.put o.dst v') w') : wpList Try.prog ops Q (o :: rest) a w := by
  obtain ⟨i0, hi, hz0, hz1, hz2⟩ := info_parts zsInfo
  have hnil : w.ownsRow w.heap.size 3 1 (.slice none 0 0) 0 [] := ⟨rfl, .inl ⟨rfl, rfl⟩⟩
  cases A with
  | none =>
    have hl0 : l = [] := by
      cases l with
      | nil => rfl
      | cons y l => obtain ⟨b, off, e, _⟩ := hst 0 (by simp); cases e
    subst hl0
    have : len = 0 := by rw [← hll]; rfl
    subst this
    rw [hA rfl] at hx
    exact wpList_append_own_none hgd s x _ ho w.heap.size _ i0 1 Try.underlying22 hi _ 0 [] hs hnil hx (by
      exact h _ _ ⟨rfl, .inl ⟨rfl, rfl⟩⟩ (Bw.refl _))
  | some ad =>
    refine wpList_append_own_at _ hgd s x _ ho w.heap.size _ i0 (.int .i64 0) 1 8 Try.underlying22 hi hz0 hz1 hz2 rfl (by decide) (.slice none 0 0) 0 [] hs hnil ad len cap (zsL l) hx (by simp [zsL, hll]) (fun j u hj => ?_) (fun u hu => ?_) (by unfold maxLen; omega) (by omega) (Nat.le_refl _) ?_
    · have hj2 : j < l.length := by
        have := (List.getElem?_eq_some_iff.1 hj).1
        simpa [zsL] using this
      obtain ⟨b, off, e, _, c0⟩ := hst j hj2
      obtain rfl : ad = ⟨b, off, none⟩ := Option.some.inj e
      have ea : (Addr.add ⟨b, off, none⟩ j) = ⟨b, off + j, none⟩ := by
        unfold Addr.add; by_cases hz : j = 0 <;> simp [hz]
      rw [ea, c0]
      simpa [zsL, hj2] using hj
    · unfold zsL at hu
      rw [List.mem_map] at hu
      obtain ⟨y, _, rfl⟩ := hu
      rfl
    · intro v' w' hown hgrow _ _
      rw [Nat.zero_add, List.nil_append] at hown
      exact h v' w' hown (own_grownJ hnil hgrow (Nat.le_refl _))
theorem zs_own {w : World} {B len : Nat} {a : Option Addr} {cap : Nat} {l : List Int} (h : w.ownsRow B 3 1 (.slice a len cap) len (zsL l)) (hl : l.length = len) : ZsAt w a l := fun i hi => by
  rcases h.2 with ⟨h1, h2⟩ | ⟨g, cap', cur, h1, h2⟩
  · omega
  · injection h1 with e1 e2 e3
    subst e1
    subst e3
    refine ⟨g, 0, rfl, own_lt h (b := g) rfl, ?_⟩
    have := h.cells (g := g) rfl i (.int .i64 l[i]) (by simp [zsL, hi])
    rw [addr_add] at this
    rw [Nat.zero_add]
    exact this
end Go.Proofs.Ytcacnidlfjglbaa

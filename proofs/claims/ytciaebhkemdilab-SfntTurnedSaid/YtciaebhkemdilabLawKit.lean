/- Plain facts on how struct arguments are read: each field's own reading, and the bound on a text's bytes. -/
import Derived.Test.YtciaebhkemdilabBase
import Derived.ProofKit
import Derived.OpenShut
import Derived.SizedLaws
import Derived.Deep.Fields
namespace Go.Proofs.Ytciaebhkemdilab
open Go.RowKit Go.ChangeShapes Go.WideShapes Go.ChangeAt Go.Deep
set_option linter.unusedVariables false
section
variable {H : Type} {enc : TypeId × Value → H} {P : Program} {w : World} {base : Nat} {spare : Nat → Bool} {held : Bool}

/-- What each field of a struct reads as. -/
def FieldsAt (enc : TypeId × Value → H) (P : Program) (w : World) (base : Nat) (spare : Nat → Bool) (held : Bool) (fs : Array Field) (cs : List Value) (ds : List (DataW H)) : Prop :=
  ∀ (j : Nat) (f : Field), fs[j]? = some f → ∃ (u : Value) (y : DataW H × List MemPlace) (n : Nat), cs[j]? = some u ∧ ds[j]? = some y.1 ∧ DataW.trod enc P w base spare held n f.type [u] = some y

theorem open_struct {r : Reach} {b0 : Nat} {t : TypeId} {fs : Array Field} {v : Value} {d : DataW H} {p : List MemPlace} (hs : P.underlying t = some (.struct fs)) (hone : oneCellFields P fs = true) (hC : P.cellsOf t = fs.size)
    (hv : Value.okWide P w r b0 t v) (h : DataW.Trod enc P w base spare held t v d p) :
    ∃ (cs : List Value) (ds : List (DataW H)), v = .agg cs.toArray ∧ cs.length = fs.size ∧ d = .agg ds ∧ ds.length = fs.size ∧ FieldsAt enc P w base spare held fs cs ds := by
  obtain ⟨ca, rfl, hsz⟩ := okWide_struct hs hv
  obtain ⟨fuel, hf⟩ := h
  obtain ⟨xs, n, _, hx, _, hxl, hfl⟩ := DataW.trod_struct hs hf
  simp only [Prod.mk.injEq] at hx
  refine ⟨ca.toList, xs.map (·.1), by simp, by simp [hsz, hC], hx.1, by simp [hxl], fun j f hj => ?_⟩
  obtain ⟨ho, hk⟩ := hone_of hone j f hj
  have hjl : j < fs.size := (Array.getElem?_eq_some_iff.1 hj).1
  have hjc : j < ca.toList.length := by simp [hsz, hC, hjl]
  have hjx : j < xs.length := by omega
  have h1 := hfl j f hj
  have e : ((Value.agg ca).cells.toList.drop f.offset).take (P.cellsOf f.type) = [ca.toList[j]'hjc] := by
    rw [ho, hk]
    show ((ca.toList).drop j).take 1 = _
    rw [List.drop_eq_getElem_cons hjc]
    rfl
  rw [e, List.getElem?_eq_getElem hjx] at h1
  exact ⟨_, _, n, List.getElem?_eq_getElem hjc, by simp [List.getElem?_eq_getElem hjx], h1⟩

theorem FieldsAt.int {fs : Array Field} {cs : List Value} {ds : List (DataW H)} (h : FieldsAt enc P w base spare held fs cs ds) (j : Nat) {f : Field} {k : IntKind} (hj : fs[j]? = some f) (hu : P.underlying f.type = some (.int k)) :
    ∃ a : Int, cs[j]? = some (.int k a) ∧ ds[j]? = some (.lit (.int k a)) ∧ (Lit.int k a).wf = true := by
  obtain ⟨u, y, n, h1, h2, h3⟩ := h j f hj
  obtain ⟨a, e1, rfl, hw⟩ := DataW.trod_int hu h3
  simp only [List.cons.injEq, and_true] at e1
  subst e1
  exact ⟨a, h1, h2, hw⟩
theorem FieldsAt.bool {fs : Array Field} {cs : List Value} {ds : List (DataW H)} (h : FieldsAt enc P w base spare held fs cs ds) (j : Nat) {f : Field} (hj : fs[j]? = some f) (hu : P.underlying f.type = some .bool) :
    ∃ a : Bool, cs[j]? = some (.bool a) ∧ ds[j]? = some (.lit (.bool a)) := by
  obtain ⟨u, y, n, h1, h2, h3⟩ := h j f hj
  obtain ⟨a, e1, rfl⟩ := DataW.trod_bool hu h3
  simp only [List.cons.injEq, and_true] at e1
  subst e1
  exact ⟨a, h1, h2⟩
theorem FieldsAt.string {fs : Array Field} {cs : List Value} {ds : List (DataW H)} (h : FieldsAt enc P w base spare held fs cs ds) (j : Nat) {f : Field} (hj : fs[j]? = some f) (hu : P.underlying f.type = some .string) :
    ∃ s : ByteArray, cs[j]? = some (.string s) ∧ ds[j]? = some (.lit (.string s.data.toList)) := by
  obtain ⟨u, y, n, h1, h2, h3⟩ := h j f hj
  obtain ⟨s, e1, rfl, _⟩ := DataW.trod_string hu h3
  simp only [List.cons.injEq, and_true] at e1
  subst e1
  exact ⟨s, h1, h2⟩
end
theorem string_reach {H : Type} {P : Program} {ts : List TypeId} {ds0 ds : List (DataW H)} (hsz : (DataW.weightsEach P ts ds0).all (· ≤ reachBytes) = true) {j i : Nat} {t : TypeId} {fs : Array Field} {f : Field} {s : ByteArray}
    (ht : ts[j]? = some t) (hd : ds0[j]? = some (.agg ds)) (hu : P.underlying t = some (.struct fs)) (hf : fs[i]? = some f) (hs : ds[i]? = some (.lit (.string s.data.toList))) : s.size ≤ 140737488351232 := by
  have h1 : s.data.toList.length ∈ DataW.weights P t (.agg ds) := by
    simp only [DataW.weights, hu]
    exact DataW.weights_mem_each (t := f.type) (by simp [hf]) hs _ (by simp [DataW.weights])
  have h2 := List.all_eq_true.1 hsz _ (DataW.weights_mem_each ht hd _ h1)
  have h3 : s.data.toList.length ≤ reachBytes := by simpa using h2
  have h4 : s.size = s.data.toList.length := by simp
  have h5 : reachBytes = 140737488351232 := by decide
  omega
theorem list4 {a b c d : Value} {cs : List Value} (h : cs.length = 4) (h0 : cs[0]? = some a) (h1 : cs[1]? = some b) (h2 : cs[2]? = some c) (h3 : cs[3]? = some d) : cs = [a, b, c, d] := by
  match cs, h with
  | [x0, x1, x2, x3], _ => simp_all
theorem list5 {a b c d e : Value} {cs : List Value} (h : cs.length = 5) (h0 : cs[0]? = some a) (h1 : cs[1]? = some b) (h2 : cs[2]? = some c) (h3 : cs[3]? = some d) (h4 : cs[4]? = some e) : cs = [a, b, c, d, e] := by
  match cs, h with
  | [x0, x1, x2, x3, x4], _ => simp_all
end Go.Proofs.Ytciaebhkemdilab

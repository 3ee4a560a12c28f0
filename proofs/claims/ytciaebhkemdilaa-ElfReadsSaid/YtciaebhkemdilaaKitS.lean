import Derived.Test.YtciaebhkemdilaaBase
import Derived.ProofKit
import Derived.OpenShut
import Derived.SizedLaws
import Derived.Deep.Fields
import Derived.Test.YtciaebhkemdilaaRows
import Derived.Test.YtciaebhkemdilaaWinY
import Derived.Maps.AppendAt
import Derived.Deep.Slices
import Derived.Test.YtciaebhkemdilaaKitE
import Derived.Deep.MidRow
import Derived.Deep.RegionHeld3
import Derived.Laws.MakeOwn
/- Plain facts on how struct arguments are read: each field's own reading, and the bound on a text's bytes. -/
namespace Go.Proofs.Ytciaebhkemdilaa
open Go.RowKit Go.ChangeShapes Go.WideShapes Go.ChangeAt Go.Deep
set_option linter.unusedVariables false
section
variable {H : Type} {enc : TypeId × Value → H} {P : Program} {w : World} {base : Nat} {spare : Nat → Bool} {held : Bool}

/-- What each field of a struct reads as. -/
def FieldsAt (enc : TypeId × Value → H) (P : Program) (w : World) (base : Nat) (spare : Nat → Bool) (held : Bool) (fs : Array Field) (cs : List Value) (ds : List (DataW H)) : Prop :=
  ∀ (j : Nat) (f : Field), fs[j]? = some f → ∃ (u : Value) (y : DataW H × List MemPlace) (n : Nat), cs[j]? = some u ∧ ds[j]? = some y.1 ∧ DataW.trod enc P w base spare held n f.type [u] = some y

theorem open_struct {r : Reach} {b0 : Nat} {t : TypeId} {fs : Array Field} {v : Value} {d : DataW H} {p : List MemPlace} (hs : P.underlying t = some (.struct fs)) (hone : oneCellFields P fs = true) (hC : P.cellsOf t = fs.size)
    (hv : Value.okWide P w r b0 t v) (h : DataW.Trod enc P w base spare held t v d p) :
    ∃ (cs : List Value) (ds : List (DataW H)), v = .agg cs.toArray ∧ cs.length = fs.size ∧ d = .agg ds ∧ ds.length = fs.size ∧ FieldsAt enc P w base spare held fs cs ds := by
  obtain ⟨ca, rfl, hsz⟩ := okWide_struct hs hv
  obtain ⟨fuel, hf⟩ := h
  obtain ⟨xs, n, _, hx, _, hxl, hfl⟩ := DataW.trod_struct hs hf
  simp only [Prod.mk.injEq] at hx
  refine ⟨ca.toList, xs.map (·.1), by simp, by simp [hsz, hC], hx.1, by simp [hxl], fun j f hj => ?_⟩
  obtain ⟨ho, hk⟩ := hone_of hone j f hj
  have hjl : j < fs.size := (Array.getElem?_eq_some_iff.1 hj).1
  have hjc : j < ca.toList.length := by simp [hsz, hC, hjl]
  have hjx : j < xs.length := by omega
  have h1 := hfl j f hj
  have e : ((Value.agg ca).cells.toList.drop f.offset).take (P.cellsOf f.type) = [ca.toList[j]'hjc] := by
    rw [ho, hk]
    show ((ca.toList).drop j).take 1 = _
    rw [List.drop_eq_getElem_cons hjc]
    rfl
  rw [e, List.getElem?_eq_getElem hjx] at h1
  exact ⟨_, _, n, List.getElem?_eq_getElem hjc, by simp [List.getElem?_eq_getElem hjx], h1⟩

theorem FieldsAt.int {fs : Array Field} {cs : List Value} {ds : List (DataW H)} (h : FieldsAt enc P w base spare held fs cs ds) (j : Nat) {f : Field} {k : IntKind} (hj : fs[j]? = some f) (hu : P.underlying f.type = some (.int k)) :
    ∃ a : Int, cs[j]? = some (.int k a) ∧ ds[j]? = some (.lit (.int k a)) ∧ (Lit.int k a).wf = true := by
  obtain ⟨u, y, n, h1, h2, h3⟩ := h j f hj
  obtain ⟨a, e1, rfl, hw⟩ := DataW.trod_int hu h3
  simp only [List.cons.injEq, and_true] at e1
  subst e1
  exact ⟨a, h1, h2, hw⟩
theorem FieldsAt.bool {fs : Array Field} {cs : List Value} {ds : List (DataW H)} (h : FieldsAt enc P w base spare held fs cs ds) (j : Nat) {f : Field} (hj : fs[j]? = some f) (hu : P.underlying f.type = some .bool) :
    ∃ a : Bool, cs[j]? = some (.bool a) ∧ ds[j]? = some (.lit (.bool a)) := by
  obtain ⟨u, y, n, h1, h2, h3⟩ := h j f hj
  obtain ⟨a, e1, rfl⟩ := DataW.trod_bool hu h3
  simp only [List.cons.injEq, and_true] at e1
  subst e1
  exact ⟨a, h1, h2⟩
theorem FieldsAt.string {fs : Array Field} {cs : List Value} {ds : List (DataW H)} (h : FieldsAt enc P w base spare held fs cs ds) (j : Nat) {f : Field} (hj : fs[j]? = some f) (hu : P.underlying f.type = some .string) :
    ∃ s : ByteArray, cs[j]? = some (.string s) ∧ ds[j]? = some (.lit (.string s.data.toList)) := by
  obtain ⟨u, y, n, h1, h2, h3⟩ := h j f hj
  obtain ⟨s, e1, rfl, _⟩ := DataW.trod_string hu h3
  simp only [List.cons.injEq, and_true] at e1
  subst e1
  exact ⟨s, h1, h2⟩
end
theorem string_reach {H : Type} {P : Program} {ts : List TypeId} {ds0 ds : List (DataW H)} (hsz : (DataW.weightsEach P ts ds0).all (· ≤ reachBytes) = true) {j i : Nat} {t : TypeId} {fs : Array Field} {f : Field} {s : ByteArray}
    (ht : ts[j]? = some t) (hd : ds0[j]? = some (.agg ds)) (hu : P.underlying t = some (.struct fs)) (hf : fs[i]? = some f) (hs : ds[i]? = some (.lit (.string s.data.toList))) : s.size ≤ 140737488351232 := by
  have h1 : s.data.toList.length ∈ DataW.weights P t (.agg ds) := by
    simp only [DataW.weights, hu]
    exact DataW.weights_mem_each (t := f.type) (by simp [hf]) hs _ (by simp [DataW.weights])
  have h2 := List.all_eq_true.1 hsz _ (DataW.weights_mem_each ht hd _ h1)
  have h3 : s.data.toList.length ≤ reachBytes := by simpa using h2
  have h4 : s.size = s.data.toList.length := by simp
  have h5 : reachBytes = 140737488351232 := by decide
  omega
theorem list4 {a b c d : Value} {cs : List Value} (h : cs.length = 4) (h0 : cs[0]? = some a) (h1 : cs[1]? = some b) (h2 : cs[2]? = some c) (h3 : cs[3]? = some d) : cs = [a, b, c, d] := by
  match cs, h with
  | [x0, x1, x2, x3], _ => simp_all
theorem list5 {a b c d e : Value} {cs : List Value} (h : cs.length = 5) (h0 : cs[0]? = some a) (h1 : cs[1]? = some b) (h2 : cs[2]? = some c) (h3 : cs[3]? = some d) (h4 : cs[4]? = some e) : cs = [a, b, c, d, e] := by
  match cs, h with
  | [x0, x1, x2, x3, x4], _ => simp_all
end Go.Proofs.Ytciaebhkemdilaa
/- How a slice of api.Section that came in, or was made, is read: cell by cell. -/
namespace Go.Proofs.Ytciaebhkemdilaa
open Go.RowKit Go.ChangeShapes Go.WideShapes Go.ChangeAt Go.Deep
set_option linter.unusedVariables false
/-- What its fields may hold. -/
def SecR.Ok (x : SecR) : Prop := x.nam.size ≤ 9223372036854775807 ∧ (-9223372036854775808 ≤ x.typ ∧ x.typ ≤ 9223372036854775807) ∧ x.flg < 18446744073709551616 ∧ x.adr < 18446744073709551616 ∧ x.dat.size ≤ 9223372036854775807 ∧ (-9223372036854775808 ≤ x.siz ∧ x.siz ≤ 9223372036854775807) ∧ (-9223372036854775808 ≤ x.lnk ∧ x.lnk ≤ 9223372036854775807) ∧ (-9223372036854775808 ≤ x.inf ∧ x.inf ≤ 9223372036854775807) ∧ x.aln < 18446744073709551616 ∧ x.eac < 18446744073709551616
def SecAt (w : World) (a : Option Addr) (l : List SecR) : Prop :=
  ∀ i (h : i < l.length), ∃ b off, a = some ⟨b, off, none⟩ ∧ b < w.heap.size ∧ w.cell? ⟨b, off + i * 10, none⟩ = some (.string (l[i]'h).nam) ∧ w.cell? ⟨b, off + i * 10 + 1, none⟩ = some (.int .i64 (l[i]'h).typ) ∧ w.cell? ⟨b, off + i * 10 + 2, none⟩ = some (.int .u64 (l[i]'h).flg) ∧ w.cell? ⟨b, off + i * 10 + 3, none⟩ = some (.int .u64 (l[i]'h).adr) ∧ w.cell? ⟨b, off + i * 10 + 4, none⟩ = some (.string (l[i]'h).dat) ∧ w.cell? ⟨b, off + i * 10 + 5, none⟩ = some (.int .i64 (l[i]'h).siz) ∧ w.cell? ⟨b, off + i * 10 + 6, none⟩ = some (.int .i64 (l[i]'h).lnk) ∧ w.cell? ⟨b, off + i * 10 + 7, none⟩ = some (.int .i64 (l[i]'h).inf) ∧ w.cell? ⟨b, off + i * 10 + 8, none⟩ = some (.int .u64 (l[i]'h).aln) ∧ w.cell? ⟨b, off + i * 10 + 9, none⟩ = some (.int .u64 (l[i]'h).eac) ∧ (l[i]'h).Ok
theorem SecAt.below {w w' : World} {a : Option Addr} {l : List SecR} (h : SecAt w a l) (hb : Below w.heap.size w w') : SecAt w' a l := fun i hi => by
  obtain ⟨b, off, e, hl, h0, h1, h2, h3, h4, h5, h6, h7, h8, h9, hk⟩ := h i hi
  exact ⟨b, off, e, Nat.lt_of_lt_of_le hl hb.size, (hb.cell (p := ⟨b, _, none⟩) hl).trans h0, (hb.cell (p := ⟨b, _, none⟩) hl).trans h1, (hb.cell (p := ⟨b, _, none⟩) hl).trans h2, (hb.cell (p := ⟨b, _, none⟩) hl).trans h3, (hb.cell (p := ⟨b, _, none⟩) hl).trans h4, (hb.cell (p := ⟨b, _, none⟩) hl).trans h5, (hb.cell (p := ⟨b, _, none⟩) hl).trans h6, (hb.cell (p := ⟨b, _, none⟩) hl).trans h7, (hb.cell (p := ⟨b, _, none⟩) hl).trans h8, (hb.cell (p := ⟨b, _, none⟩) hl).trans h9, hk⟩
theorem cells_sec : Try.prog.cellsOf 43 = 10 := by kernel_rfl
section
variable {H : Type} {enc : TypeId × Value → H} {w : World} {base : Nat} {spare : Nat → Bool} {held : Bool}
set_option maxRecDepth 100000 in
set_option maxHeartbeats 1000000 in
theorem open_sec {n : Nat} {u : Value} {y : DataW H × List MemPlace} (h : DataW.trod enc Try.prog w base spare held n 25 [u] = some y) :
    ∃ (a : Option Addr) (len cap : Nat) (l : List SecR), u = .slice a len cap ∧ len ≤ 9223372036854775807 ∧ l.length = len ∧ SecAt w a l := by
  rcases open_slice Try.underlying25 h with ⟨hcs, _⟩ | ⟨a, len, cap, mm, nn, D, Pl, hcs, _, hl, hcm, hm, _, hi⟩
  · simp only [List.cons.injEq, and_true] at hcs
    exact ⟨none, 0, 0, [], hcs, by omega, rfl, fun i hi => by simp at hi⟩
  · simp only [List.cons.injEq, and_true] at hcs
    have hlm : len ≤ mm := by rw [hm]; split <;> omega
    by_cases hz : len = 0
    · exact ⟨some a, len, cap, [], hcs, by omega, by simp [hz], fun i hi => by simp at hi⟩
    have hsp : a.spot = none := by
      obtain ⟨cs', hc, _⟩ := hi 0 (by omega)
      rw [cells_sec] at hc
      obtain ⟨_, hcl, hat⟩ := World.cells?_some hc
      match cs', hcl with
      | [v0, v1, v2, v3, v4, v5, v6, v7, v8, v9], _ =>
        have c0 := hat 0 (by omega)
        simp only [List.getElem?_cons_zero] at c0
        simpa [Addr.add] using World.cell?_spot c0
    obtain ⟨b, off, sp⟩ := a
    obtain rfl : sp = none := hsp
    have key : ∀ i, i < len → ∃ p : SecR, ∃ b' off', some (⟨b, off, none⟩ : Addr) = some ⟨b', off', none⟩ ∧ b' < w.heap.size ∧ w.cell? ⟨b', off' + i * 10, none⟩ = some (.string p.nam) ∧ w.cell? ⟨b', off' + i * 10 + 1, none⟩ = some (.int .i64 p.typ) ∧ w.cell? ⟨b', off' + i * 10 + 2, none⟩ = some (.int .u64 p.flg) ∧ w.cell? ⟨b', off' + i * 10 + 3, none⟩ = some (.int .u64 p.adr) ∧ w.cell? ⟨b', off' + i * 10 + 4, none⟩ = some (.string p.dat) ∧ w.cell? ⟨b', off' + i * 10 + 5, none⟩ = some (.int .i64 p.siz) ∧ w.cell? ⟨b', off' + i * 10 + 6, none⟩ = some (.int .i64 p.lnk) ∧ w.cell? ⟨b', off' + i * 10 + 7, none⟩ = some (.int .i64 p.inf) ∧ w.cell? ⟨b', off' + i * 10 + 8, none⟩ = some (.int .u64 p.aln) ∧ w.cell? ⟨b', off' + i * 10 + 9, none⟩ = some (.int .u64 p.eac) ∧ p.Ok := fun i hlt => by
      obtain ⟨cs', hc, ht⟩ := hi i (by omega)
      rw [cells_sec] at hc
      obtain ⟨_, hcl, hat⟩ := World.cells?_some hc
      obtain ⟨xs, n', _, hy, hlen, hxl, hf⟩ := DataW.trod_struct Try.underlying43 ht
      match cs', hcl with
      | [v0, v1, v2, v3, v4, v5, v6, v7, v8, v9], _ =>
        have h0 := hf 0 _ rfl
        have h1 := hf 1 _ rfl
        have h2 := hf 2 _ rfl
        have h3 := hf 3 _ rfl
        have h4 := hf 4 _ rfl
        have h5 := hf 5 _ rfl
        have h6 := hf 6 _ rfl
        have h7 := hf 7 _ rfl
        have h8 := hf 8 _ rfl
        have h9 := hf 9 _ rfl
        have e0 : xs[0]? = some (xs[0]'(by rw [hxl]; decide)) := List.getElem?_eq_getElem _
        have e1 : xs[1]? = some (xs[1]'(by rw [hxl]; decide)) := List.getElem?_eq_getElem _
        have e2 : xs[2]? = some (xs[2]'(by rw [hxl]; decide)) := List.getElem?_eq_getElem _
        have e3 : xs[3]? = some (xs[3]'(by rw [hxl]; decide)) := List.getElem?_eq_getElem _
        have e4 : xs[4]? = some (xs[4]'(by rw [hxl]; decide)) := List.getElem?_eq_getElem _
        have e5 : xs[5]? = some (xs[5]'(by rw [hxl]; decide)) := List.getElem?_eq_getElem _
        have e6 : xs[6]? = some (xs[6]'(by rw [hxl]; decide)) := List.getElem?_eq_getElem _
        have e7 : xs[7]? = some (xs[7]'(by rw [hxl]; decide)) := List.getElem?_eq_getElem _
        have e8 : xs[8]? = some (xs[8]'(by rw [hxl]; decide)) := List.getElem?_eq_getElem _
        have e9 : xs[9]? = some (xs[9]'(by rw [hxl]; decide)) := List.getElem?_eq_getElem _
        rw [e0] at h0
        rw [e1] at h1
        rw [e2] at h2
        rw [e3] at h3
        rw [e4] at h4
        rw [e5] at h5
        rw [e6] at h6
        rw [e7] at h7
        rw [e8] at h8
        rw [e9] at h9
        obtain ⟨x0, hx0, _, hw0⟩ := DataW.trod_string Try.underlying9 h0
        obtain ⟨x1, hx1, _, hw1⟩ := DataW.trod_int Try.underlying3 h1
        obtain ⟨x2, hx2, _, hw2⟩ := DataW.trod_int Try.underlying23 h2
        obtain ⟨x3, hx3, _, hw3⟩ := DataW.trod_int Try.underlying23 h3
        obtain ⟨x4, hx4, _, hw4⟩ := DataW.trod_string Try.underlying9 h4
        obtain ⟨x5, hx5, _, hw5⟩ := DataW.trod_int Try.underlying3 h5
        obtain ⟨x6, hx6, _, hw6⟩ := DataW.trod_int Try.underlying3 h6
        obtain ⟨x7, hx7, _, hw7⟩ := DataW.trod_int Try.underlying3 h7
        obtain ⟨x8, hx8, _, hw8⟩ := DataW.trod_int Try.underlying23 h8
        obtain ⟨x9, hx9, _, hw9⟩ := DataW.trod_int Try.underlying23 h9
        have c0 := hat 0 (by omega)
        have c1 := hat 1 (by omega)
        have c2 := hat 2 (by omega)
        have c3 := hat 3 (by omega)
        have c4 := hat 4 (by omega)
        have c5 := hat 5 (by omega)
        have c6 := hat 6 (by omega)
        have c7 := hat 7 (by omega)
        have c8 := hat 8 (by omega)
        have c9 := hat 9 (by omega)
        have v0e : v0 = .string x0 := by simpa [show Try.prog.cellsOf 9 = 1 from by kernel_rfl] using hx0
        have v1e : v1 = .int .i64 x1 := by simpa [show Try.prog.cellsOf 3 = 1 from by kernel_rfl] using hx1
        have v2e : v2 = .int .u64 x2 := by simpa [show Try.prog.cellsOf 23 = 1 from by kernel_rfl] using hx2
        have v3e : v3 = .int .u64 x3 := by simpa [show Try.prog.cellsOf 23 = 1 from by kernel_rfl] using hx3
        have v4e : v4 = .string x4 := by simpa [show Try.prog.cellsOf 9 = 1 from by kernel_rfl] using hx4
        have v5e : v5 = .int .i64 x5 := by simpa [show Try.prog.cellsOf 3 = 1 from by kernel_rfl] using hx5
        have v6e : v6 = .int .i64 x6 := by simpa [show Try.prog.cellsOf 3 = 1 from by kernel_rfl] using hx6
        have v7e : v7 = .int .i64 x7 := by simpa [show Try.prog.cellsOf 3 = 1 from by kernel_rfl] using hx7
        have v8e : v8 = .int .u64 x8 := by simpa [show Try.prog.cellsOf 23 = 1 from by kernel_rfl] using hx8
        have v9e : v9 = .int .u64 x9 := by simpa [show Try.prog.cellsOf 23 = 1 from by kernel_rfl] using hx9
        subst v0e v1e v2e v3e v4e v5e v6e v7e v8e v9e
        have hr1 : -9223372036854775808 ≤ x1 ∧ x1 ≤ 9223372036854775807 := by
          simp [Lit.wf, IntKind.min, IntKind.max, IntKind.bits, IntKind.signed] at hw1
          omega
        have hr2 : 0 ≤ x2 ∧ x2 < 18446744073709551616 := by
          simp [Lit.wf, IntKind.min, IntKind.max, IntKind.bits, IntKind.signed] at hw2
          omega
        obtain ⟨y2, rfl⟩ := Int.eq_ofNat_of_zero_le hr2.1
        have hr3 : 0 ≤ x3 ∧ x3 < 18446744073709551616 := by
          simp [Lit.wf, IntKind.min, IntKind.max, IntKind.bits, IntKind.signed] at hw3
          omega
        obtain ⟨y3, rfl⟩ := Int.eq_ofNat_of_zero_le hr3.1
        have hr5 : -9223372036854775808 ≤ x5 ∧ x5 ≤ 9223372036854775807 := by
          simp [Lit.wf, IntKind.min, IntKind.max, IntKind.bits, IntKind.signed] at hw5
          omega
        have hr6 : -9223372036854775808 ≤ x6 ∧ x6 ≤ 9223372036854775807 := by
          simp [Lit.wf, IntKind.min, IntKind.max, IntKind.bits, IntKind.signed] at hw6
          omega
        have hr7 : -9223372036854775808 ≤ x7 ∧ x7 ≤ 9223372036854775807 := by
          simp [Lit.wf, IntKind.min, IntKind.max, IntKind.bits, IntKind.signed] at hw7
          omega
        have hr8 : 0 ≤ x8 ∧ x8 < 18446744073709551616 := by
          simp [Lit.wf, IntKind.min, IntKind.max, IntKind.bits, IntKind.signed] at hw8
          omega
        obtain ⟨y8, rfl⟩ := Int.eq_ofNat_of_zero_le hr8.1
        have hr9 : 0 ≤ x9 ∧ x9 < 18446744073709551616 := by
          simp [Lit.wf, IntKind.min, IntKind.max, IntKind.bits, IntKind.signed] at hw9
          omega
        obtain ⟨y9, rfl⟩ := Int.eq_ofNat_of_zero_le hr9.1
        simp only [List.getElem?_cons_zero] at c0
        simp only [List.getElem?_cons_succ, List.getElem?_cons_zero] at c1 c2 c3 c4 c5 c6 c7 c8 c9
        have aj : ∀ j, (Addr.add (Addr.add ⟨b, off, none⟩ (i * 10)) j) = ⟨b, off + i * 10 + j, none⟩ := fun j => by
          unfold Addr.add
          by_cases hz : i * 10 = 0 <;> by_cases hj : j = 0 <;> simp [hz, hj]
        rw [aj] at c0 c1 c2 c3 c4 c5 c6 c7 c8 c9
        refine ⟨⟨x0, x1, y2, y3, x4, x5, x6, x7, y8, y9⟩, b, off, rfl, ?_, by simpa using c0, c1, c2, c3, c4, c5, c6, c7, c8, c9, ⟨by have := hw0; unfold maxLen at this; exact this, hr1, by have := hr2.2; show y2 < _; omega, by have := hr3.2; show y3 < _; omega, by have := hw4; unfold maxLen at this; exact this, hr5, hr6, hr7, by have := hr8.2; show y8 < _; omega, by have := hr9.2; show y9 < _; omega⟩⟩
        rcases Nat.lt_or_ge b w.heap.size with hlt' | hge
        · exact hlt'
        · simp [World.cell?, Array.getElem?_eq_none hge] at c0
    have hch : ∃ f : Nat → SecR, ∀ i, i < len → ∃ b' off', some (⟨b, off, none⟩ : Addr) = some ⟨b', off', none⟩ ∧ b' < w.heap.size ∧ w.cell? ⟨b', off' + i * 10, none⟩ = some (.string (f i).nam) ∧ w.cell? ⟨b', off' + i * 10 + 1, none⟩ = some (.int .i64 (f i).typ) ∧ w.cell? ⟨b', off' + i * 10 + 2, none⟩ = some (.int .u64 (f i).flg) ∧ w.cell? ⟨b', off' + i * 10 + 3, none⟩ = some (.int .u64 (f i).adr) ∧ w.cell? ⟨b', off' + i * 10 + 4, none⟩ = some (.string (f i).dat) ∧ w.cell? ⟨b', off' + i * 10 + 5, none⟩ = some (.int .i64 (f i).siz) ∧ w.cell? ⟨b', off' + i * 10 + 6, none⟩ = some (.int .i64 (f i).lnk) ∧ w.cell? ⟨b', off' + i * 10 + 7, none⟩ = some (.int .i64 (f i).inf) ∧ w.cell? ⟨b', off' + i * 10 + 8, none⟩ = some (.int .u64 (f i).aln) ∧ w.cell? ⟨b', off' + i * 10 + 9, none⟩ = some (.int .u64 (f i).eac) ∧ (f i).Ok :=
      ⟨fun i => if h : i < len then (key i h).choose else ⟨⟨#[]⟩, 0, 0, 0, ⟨#[]⟩, 0, 0, 0, 0, 0⟩, fun i h => by
        have := (key i h).choose_spec
        simpa [h] using this⟩
    obtain ⟨f, hf⟩ := hch
    refine ⟨some ⟨b, off, none⟩, len, cap, (List.range len).map f, hcs, by unfold maxLen at hcm; omega, by simp, fun i hi => ?_⟩
    have hi' : i < len := by simpa using hi
    have := hf i hi'
    simpa using this
end
def secCell (o : SecR) : List Value := [.string o.nam, .int .i64 o.typ, .int .u64 o.flg, .int .u64 o.adr, .string o.dat, .int .i64 o.siz, .int .i64 o.lnk, .int .i64 o.inf, .int .u64 o.aln, .int .u64 o.eac]
def secCells (l : List SecR) : List Value := l.flatMap secCell
theorem secCells_snoc (l : List SecR) (o : SecR) : secCells (l ++ [o]) = secCells l ++ secCell o := by simp [secCells]
theorem secCells_app (l m : List SecR) : secCells (l ++ m) = secCells l ++ secCells m := by simp [secCells]
theorem secCells_len (l : List SecR) : (secCells l).length = l.length * 10 := by
  induction l with
  | nil => rfl
  | cons o l ih =>
    have e : secCells (o :: l) = secCell o ++ secCells l := by simp [secCells]
    have e4 : (secCell o).length = 10 := rfl
    rw [e, List.length_append, ih, List.length_cons]; omega
theorem secCells_get (l : List SecR) (i : Nat) (h : i < l.length) (j : Nat) (hj : j < 10) : (secCells l)[i * 10 + j]? = (secCell l[i])[j]? := by
  induction l generalizing i with
  | nil => simp at h
  | cons o l ih =>
    have e : secCells (o :: l) = secCell o ++ secCells l := by simp [secCells]
    have e4 : (secCell o).length = 10 := rfl
    rw [e]
    cases i with
    | zero =>
      rw [Nat.zero_mul, Nat.zero_add, List.getElem?_append_left (by omega)]
      rfl
    | succ i =>
      rw [List.getElem?_append_right (by omega), show (i + 1) * 10 + j - (secCell o).length = i * 10 + j by omega]
      exact ih i (by simpa using h)
theorem SecAt.of_cells {w : World} {g : Nat} {l : List SecR} (hlt : l.length ≠ 0 → g < w.heap.size) (hc : ∀ j u, (secCells l)[j]? = some u → w.cell? ⟨g, j, none⟩ = some u) (hv : ∀ o ∈ l, o.Ok) : SecAt w (some ⟨g, 0, none⟩) l := fun i hi => by
  have key : ∀ j, j < 10 → ∀ u, (secCell l[i])[j]? = some u → w.cell? ⟨g, 0 + i * 10 + j, none⟩ = some u := fun j hj u hu => by
    have := hc (i * 10 + j) u (by rw [secCells_get l i hi j hj, hu])
    rw [Nat.zero_add]; exact this
  exact ⟨g, 0, rfl, hlt (by omega), key 0 (by omega) _ rfl, key 1 (by omega) _ rfl, key 2 (by omega) _ rfl, key 3 (by omega) _ rfl, key 4 (by omega) _ rfl, key 5 (by omega) _ rfl, key 6 (by omega) _ rfl, key 7 (by omega) _ rfl, key 8 (by omega) _ rfl, key 9 (by omega) _ rfl, hv _ (List.getElem_mem _)⟩
theorem SecAt.of_own {w : World} {B : Nat} {ao : Option Addr} {n cap : Nat} {l : List SecR} (h : w.ownsRow B 43 10 (.slice ao n cap) l.length (secCells l)) (hv : ∀ o ∈ l, o.Ok) : SecAt w ao l := by
  rcases h.2 with ⟨h1, h2⟩ | ⟨g, cap', cur, h1, h3, h2, _⟩
  · intro i hi; omega
  · injection h1 with e1 e2 e3
    subst e1
    subst e2
    refine SecAt.of_cells (fun _ => (Array.getElem?_eq_some_iff.1 h2).1) (fun j u hu => ?_) hv
    have := h.cells (g := g) rfl j u hu
    have ea : (Addr.add ⟨g, 0, none⟩ j) = ⟨g, j, none⟩ := by
      unfold Addr.add
      by_cases hz : j = 0
      · simp [hz]
      · simp; omega
    rwa [ea] at this
theorem secKInfo : (Try.prog.info? 43).map (fun i => (i.zero, i.size, i.bytes)) = some (some (.agg #[.string ⟨#[]⟩, .int .i64 0, .int .u64 0, .int .u64 0, .string ⟨#[]⟩, .int .i64 0, .int .i64 0, .int .i64 0, .int .u64 0, .int .u64 0]), 10, 96) := by kernel_rfl
end Go.Proofs.Ytciaebhkemdilaa
/- A struct's cells, stored one behind the other. No program in it. -/
namespace Go.Proofs.Ytciaebhkemdilaa
open Go.RowKit
set_option linter.unusedVariables false
def putL (g : Nat) : List Value → Nat → World → World
  | [], _, w => w
  | v :: r, i, w => putL g r (i + 1) (w.setCell ⟨g, i, none⟩ v)
def setL : List Value → Nat → Array Value → Array Value
  | [], _, cs => cs
  | v :: r, i, cs => setL r (i + 1) (cs.setIfInBounds i v)
theorem putL_has {g : Nat} {t : TypeId} : ∀ {l : List Value} {i : Nat} {w : World} {cs : Array Value}, Has w g t cs → Has (putL g l i w) g t (setL l i cs)
  | [], _, _, _, h => h
  | v :: r, i, w, cs, h => by rw [putL, setL]; exact putL_has (h.put i v)
theorem putL_far {g b : Nat} {t : TypeId} (hb : b ≠ g) : ∀ {l : List Value} {i : Nat} {w : World} {cs : Array Value}, Has w b t cs → Has (putL g l i w) b t cs
  | [], _, _, _, h => h
  | v :: r, i, w, cs, h => by rw [putL]; exact putL_far hb (h.far (p := ⟨g, i, none⟩) hb v)
theorem putL_below {B g : Nat} (hg : B ≤ g) : ∀ {l : List Value} {i : Nat} {w0 w : World}, Below B w0 w → Below B w0 (putL g l i w)
  | [], _, _, _, h => h
  | v :: r, i, w0, w, h => by rw [putL]; exact putL_below hg (Below.setCell (p := ⟨g, i, none⟩) h hg v)
theorem putL_heap {g b : Nat} (hb : b ≠ g) : ∀ {l : List Value} {i : Nat} {w : World}, (putL g l i w).heap[b]? = w.heap[b]?
  | [], _, _ => rfl
  | v :: r, i, w => by rw [putL, putL_heap hb]; exact Below.heap_setCell w ⟨g, i, none⟩ v b hb
theorem putL_size {g : Nat} : ∀ {l : List Value} {i : Nat} {w : World}, (putL g l i w).heap.size = w.heap.size
  | [], _, _ => rfl
  | v :: r, i, w => by rw [putL, putL_size]; simp [World.setCell]
theorem Has.range {w : World} {g : Nat} {t : TypeId} {cs : Array Value} (h : Has w g t cs) : w.rangeAt g 0 cs.toList := fun j v hv => by
  rw [Nat.zero_add, h.cell j]
  simpa using hv
theorem Has.there {w : World} {g : Nat} {t : TypeId} {cs : Array Value} (h : Has w g t cs) (n : Nat) (hn : n ≤ cs.size) : w.there g 0 n := fun j hj => by
  rw [Nat.zero_add, h.cell j, h.frozen j]
  refine ⟨?_, rfl⟩
  rw [Array.getElem?_eq_getElem (show j < cs.size by omega)]
  rfl
theorem setCells_put {g : Nat} : ∀ (l : List Value) (i : Nat) (w : World), w.setCells g i l = putL g l i w
  | [], _, _ => rfl
  | v :: r, i, w => by rw [World.setCells, putL]; exact setCells_put r (i + 1) _
theorem setL_all : ∀ (l : List Value) (p : List Value) (q : List Value), q.length = l.length → setL l p.length (p ++ q).toArray = (p ++ l).toArray
  | [], p, q, h => by
    have : q = [] := List.eq_nil_of_length_eq_zero h
    rw [this]; rfl
  | v :: r, p, [], h => by simp at h
  | v :: r, p, x :: q, h => by
    have e : (p ++ x :: q).toArray.setIfInBounds p.length v = ((p ++ [v]) ++ q).toArray := by
      simp
    have := setL_all r (p ++ [v]) q (by simpa using h)
    rw [setL, e]
    have e2 : (p ++ [v]).length = p.length + 1 := by simp
    rw [e2] at this
    rw [this, List.append_assoc]
    rfl
theorem Has.set {w : World} {g : Nat} {t : TypeId} {cs : Array Value} (h : Has w g t cs) (l : List Value) (hl : cs.size = l.length) : Has (w.setCells g 0 l) g t l.toArray := by
  rw [setCells_put]
  have h2 := putL_has (l := l) (i := 0) h
  have e := setL_all l [] cs.toList (by simpa using hl)
  simp only [List.length_nil, List.nil_append] at e
  rw [← e]
  simpa using h2
theorem Has.set_far {w : World} {g b : Nat} {t : TypeId} {cs : Array Value} (h : Has w b t cs) (hb : b ≠ g) (l : List Value) : Has (w.setCells g 0 l) b t cs := by
  rw [setCells_put]; exact putL_far hb h
theorem Bw.set {w0 w : World} {g : Nat} (h : Bw w0 w) (hg : w0.heap.size ≤ g) (l : List Value) : Bw w0 (w.setCells g 0 l) := by
  rw [setCells_put]; exact putL_below hg h
theorem Keeps.set {F : Nat → Prop} {a w : World} {g : Nat} (h : Keeps F a w) (hg : a.heap.size ≤ g) (l : List Value) : Keeps F a (w.setCells g 0 l) := by
  rw [setCells_put]
  have hb := putL_below (B := 0) (g := g) (Nat.zero_le _) (l := l) (i := 0) (Below.refl 0 w)
  exact ⟨hb.os.trans h.os, hb.tape.trans h.tape, hb.output.trans h.output, by rw [putL_size]; exact h.size, fun i hi hn => (putL_heap (by omega)).trans (h.block i hi hn)⟩
theorem inf_head : (Try.prog.info? 86).map (·.size) = some 10 := by kernel_rfl
theorem inf_Segment : (Try.prog.info? 61).map (·.size) = some 8 := by kernel_rfl
theorem inf_Section : (Try.prog.info? 43).map (·.size) = some 10 := by kernel_rfl
theorem inf_section : (Try.prog.info? 95).map (·.size) = some 12 := by kernel_rfl
theorem inf_placed : (Try.prog.info? 74).map (·.size) = some 12 := by kernel_rfl
theorem inf_Elf : (Try.prog.info? 27).map (·.size) = some 6 := by kernel_rfl
end Go.Proofs.Ytciaebhkemdilaa
/- One struct, appended to a row of the call's own. No program in it. -/
namespace Go.Proofs.Ytciaebhkemdilaa
open Go.RowKit
set_option linter.unusedVariables false
theorem run_app1 {P : Program} {w : World} (B : Nat) (t ty e : TypeId) (i : TypeInfo) (z : Value) (size bytes : Nat) (ht : P.underlying t = some (.slice e)) (hi : P.info? e = some i) (hz : i.zero = some z) (hs1 : i.size = size) (hby : i.bytes = bytes) (hzs : z.cells.size = size) (hsz : 0 < size)
    (v : Value) (n : Nat) (xs : List Value) (hown : w.ownsRow B e size v n xs) (g : Nat) (cs : Array Value) (hcs : Has w g e cs) (hl : cs.size = size) (h1 : ∀ u ∈ cs.toList, u.oneCell' = true) (hm : n + 1 ≤ maxLen) (hb : (n + 1) * bytes ≤ 140737488355328) (hB : B ≤ w.heap.size) :
    ∃ ao cap w', (Builtin.append_ #[t, t] ty #[v, .slice (some ⟨g, 0, none⟩) 1 1]).run P w = .ok (.slice ao (n + 1) cap) w' ∧ w'.ownsRow B e size (.slice ao (n + 1) cap) (n + 1) (xs ++ cs.toList) ∧ w.grownBy w' v.ownBlock := by
  obtain ⟨v', w', hr, hw, hg, _⟩ := run_append_own (P := P) w B t ty e i z size bytes ht hi hz hs1 hby hzs hsz v n xs hown ⟨g, 0, none⟩ 1 1 cs.toList (by simpa using hl) (fun j u hu => by rw [addr_add, hcs.cell j]; simpa using hu) h1 hm hb hB
  obtain ⟨ao, cap, rfl⟩ := own_slice hw
  exact ⟨ao, cap, w', hr, hw, hg⟩
theorem step_app1 {P : Program} {w : World} {ops : Array Oper} {o : Oper} {a : Act} {K : Act → World → Prop} {Q : Exit → Act → World → Prop} {E : Prop} (hgd : o.guard = none) (s x : Operand) (t : TypeId)
    (ho : o.op = .call { callee := .builtin .append, args := #[s, x], argTypes := #[t, t] }) (B : Nat) (e : TypeId) (i : TypeInfo) (z : Value) (size bytes : Nat) (ht : P.underlying t = some (.slice e)) (hi : P.info? e = some i) (hz : i.zero = some z) (hs1 : i.size = size) (hby : i.bytes = bytes) (hzs : z.cells.size = size) (hsz : 0 < size)
    (v : Value) (n : Nat) (xs : List Value) (hs : a.eval s = v) (hown : w.ownsRow B e size v n xs) (g : Nat) (cs : Array Value) (hx : a.eval x = .slice (some ⟨g, 0, none⟩) 1 1) (hcs : Has w g e cs) (hl : cs.size = size) (h1 : ∀ u ∈ cs.toList, u.oneCell' = true) (hm : n + 1 ≤ maxLen) (hb : (n + 1) * bytes ≤ 140737488355328) (hB : B ≤ w.heap.size)
    (h : ∀ ao cap w', w'.ownsRow B e size (.slice ao (n + 1) cap) (n + 1) (xs ++ cs.toList) → w.grownBy w' v.ownBlock → K (a.put o.dst (.slice ao (n + 1) cap)) w') :
    if Region.wanted o (yielded ops a.tmps) = true then Oper.wp P o a w K Q else E := by
  have hw : Region.wanted o (yielded ops a.tmps) = true := by simp [Region.wanted, hgd]
  rw [if_pos hw]
  obtain ⟨ao, cap, w', hr, k1, k2⟩ := run_app1 (P := P) B t o.type e i z size bytes ht hi hz hs1 hby hzs hsz v n xs hown g cs hcs hl h1 hm hb hB
  unfold Oper.wp execOp
  simp only [ho, resolve, invoke, builtin, Sem.run_bind, Sem.run_pure, Result.andThen_ok, List.map_toArray, List.map_cons, List.map_nil, hs, hx, hr]
  exact h ao cap w' k1 k2
theorem wpList_app1 {P : Program} {w : World} {ops : Array Oper} {rest : List Oper} {o : Oper} {a : Act} {Q : Exit → Act → World → Prop} (hgd : o.guard = none) (s x : Operand) (t : TypeId)
    (ho : o.op = .call { callee := .builtin .append, args := #[s, x], argTypes := #[t, t] }) (B : Nat) (e : TypeId) (i : TypeInfo) (z : Value) (size bytes : Nat) (ht : P.underlying t = some (.slice e)) (hi : P.info? e = some i) (hz : i.zero = some z) (hs1 : i.size = size) (hby : i.bytes = bytes) (hzs : z.cells.size = size) (hsz : 0 < size)
    (v : Value) (n : Nat) (xs : List Value) (hs : a.eval s = v) (hown : w.ownsRow B e size v n xs) (g : Nat) (cs : Array Value) (hx : a.eval x = .slice (some ⟨g, 0, none⟩) 1 1) (hcs : Has w g e cs) (hl : cs.size = size) (h1 : ∀ u ∈ cs.toList, u.oneCell' = true) (hm : n + 1 ≤ maxLen) (hb : (n + 1) * bytes ≤ 140737488355328) (hB : B ≤ w.heap.size)
    (h : ∀ ao cap w', w'.ownsRow B e size (.slice ao (n + 1) cap) (n + 1) (xs ++ cs.toList) → w.grownBy w' v.ownBlock → wpList P ops Q rest (a.put o.dst (.slice ao (n + 1) cap)) w') : wpList P ops Q (o :: rest) a w := by
  refine wpList_plain hgd fun K hK => ?_
  obtain ⟨ao, cap, w', hr, k1, k2⟩ := run_app1 (P := P) B t o.type e i z size bytes ht hi hz hs1 hby hzs hsz v n xs hown g cs hcs hl h1 hm hb hB
  unfold Oper.wp execOp
  simp only [ho, resolve, invoke, builtin, Sem.run_bind, Sem.run_pure, Result.andThen_ok, List.map_toArray, List.map_cons, List.map_nil, hs, hx, hr]
  exact hK _ _ (h ao cap w' k1 k2)
end Go.Proofs.Ytciaebhkemdilaa
/- How a slice of api.Segment that came in, or was made, is read: cell by cell. -/
namespace Go.Proofs.Ytciaebhkemdilaa
open Go.RowKit Go.ChangeShapes Go.WideShapes Go.ChangeAt Go.Deep
set_option linter.unusedVariables false
/-- What its fields may hold. -/
def SegR.Ok (x : SegR) : Prop := (-9223372036854775808 ≤ x.typ ∧ x.typ ≤ 9223372036854775807) ∧ (-9223372036854775808 ≤ x.flg ∧ x.flg ≤ 9223372036854775807) ∧ (-9223372036854775808 ≤ x.off ∧ x.off ≤ 9223372036854775807) ∧ x.vad < 18446744073709551616 ∧ x.pad < 18446744073709551616 ∧ (-9223372036854775808 ≤ x.fsz ∧ x.fsz ≤ 9223372036854775807) ∧ x.msz < 18446744073709551616 ∧ x.aln < 18446744073709551616
def SegAt (w : World) (a : Option Addr) (l : List SegR) : Prop :=
  ∀ i (h : i < l.length), ∃ b off, a = some ⟨b, off, none⟩ ∧ b < w.heap.size ∧ w.cell? ⟨b, off + i * 8, none⟩ = some (.int .i64 (l[i]'h).typ) ∧ w.cell? ⟨b, off + i * 8 + 1, none⟩ = some (.int .i64 (l[i]'h).flg) ∧ w.cell? ⟨b, off + i * 8 + 2, none⟩ = some (.int .i64 (l[i]'h).off) ∧ w.cell? ⟨b, off + i * 8 + 3, none⟩ = some (.int .u64 (l[i]'h).vad) ∧ w.cell? ⟨b, off + i * 8 + 4, none⟩ = some (.int .u64 (l[i]'h).pad) ∧ w.cell? ⟨b, off + i * 8 + 5, none⟩ = some (.int .i64 (l[i]'h).fsz) ∧ w.cell? ⟨b, off + i * 8 + 6, none⟩ = some (.int .u64 (l[i]'h).msz) ∧ w.cell? ⟨b, off + i * 8 + 7, none⟩ = some (.int .u64 (l[i]'h).aln) ∧ (l[i]'h).Ok
theorem SegAt.below {w w' : World} {a : Option Addr} {l : List SegR} (h : SegAt w a l) (hb : Below w.heap.size w w') : SegAt w' a l := fun i hi => by
  obtain ⟨b, off, e, hl, h0, h1, h2, h3, h4, h5, h6, h7, hk⟩ := h i hi
  exact ⟨b, off, e, Nat.lt_of_lt_of_le hl hb.size, (hb.cell (p := ⟨b, _, none⟩) hl).trans h0, (hb.cell (p := ⟨b, _, none⟩) hl).trans h1, (hb.cell (p := ⟨b, _, none⟩) hl).trans h2, (hb.cell (p := ⟨b, _, none⟩) hl).trans h3, (hb.cell (p := ⟨b, _, none⟩) hl).trans h4, (hb.cell (p := ⟨b, _, none⟩) hl).trans h5, (hb.cell (p := ⟨b, _, none⟩) hl).trans h6, (hb.cell (p := ⟨b, _, none⟩) hl).trans h7, hk⟩
theorem cells_seg : Try.prog.cellsOf 61 = 8 := by kernel_rfl
section
variable {H : Type} {enc : TypeId × Value → H} {w : World} {base : Nat} {spare : Nat → Bool} {held : Bool}
set_option maxRecDepth 100000 in
set_option maxHeartbeats 1000000 in
theorem open_seg {n : Nat} {u : Value} {y : DataW H × List MemPlace} (h : DataW.trod enc Try.prog w base spare held n 24 [u] = some y) :
    ∃ (a : Option Addr) (len cap : Nat) (l : List SegR), u = .slice a len cap ∧ len ≤ 9223372036854775807 ∧ l.length = len ∧ SegAt w a l := by
  rcases open_slice Try.underlying24 h with ⟨hcs, _⟩ | ⟨a, len, cap, mm, nn, D, Pl, hcs, _, hl, hcm, hm, _, hi⟩
  · simp only [List.cons.injEq, and_true] at hcs
    exact ⟨none, 0, 0, [], hcs, by omega, rfl, fun i hi => by simp at hi⟩
  · simp only [List.cons.injEq, and_true] at hcs
    have hlm : len ≤ mm := by rw [hm]; split <;> omega
    by_cases hz : len = 0
    · exact ⟨some a, len, cap, [], hcs, by omega, by simp [hz], fun i hi => by simp at hi⟩
    have hsp : a.spot = none := by
      obtain ⟨cs', hc, _⟩ := hi 0 (by omega)
      rw [cells_seg] at hc
      obtain ⟨_, hcl, hat⟩ := World.cells?_some hc
      match cs', hcl with
      | [v0, v1, v2, v3, v4, v5, v6, v7], _ =>
        have c0 := hat 0 (by omega)
        simp only [List.getElem?_cons_zero] at c0
        simpa [Addr.add] using World.cell?_spot c0
    obtain ⟨b, off, sp⟩ := a
    obtain rfl : sp = none := hsp
    have key : ∀ i, i < len → ∃ p : SegR, ∃ b' off', some (⟨b, off, none⟩ : Addr) = some ⟨b', off', none⟩ ∧ b' < w.heap.size ∧ w.cell? ⟨b', off' + i * 8, none⟩ = some (.int .i64 p.typ) ∧ w.cell? ⟨b', off' + i * 8 + 1, none⟩ = some (.int .i64 p.flg) ∧ w.cell? ⟨b', off' + i * 8 + 2, none⟩ = some (.int .i64 p.off) ∧ w.cell? ⟨b', off' + i * 8 + 3, none⟩ = some (.int .u64 p.vad) ∧ w.cell? ⟨b', off' + i * 8 + 4, none⟩ = some (.int .u64 p.pad) ∧ w.cell? ⟨b', off' + i * 8 + 5, none⟩ = some (.int .i64 p.fsz) ∧ w.cell? ⟨b', off' + i * 8 + 6, none⟩ = some (.int .u64 p.msz) ∧ w.cell? ⟨b', off' + i * 8 + 7, none⟩ = some (.int .u64 p.aln) ∧ p.Ok := fun i hlt => by
      obtain ⟨cs', hc, ht⟩ := hi i (by omega)
      rw [cells_seg] at hc
      obtain ⟨_, hcl, hat⟩ := World.cells?_some hc
      obtain ⟨xs, n', _, hy, hlen, hxl, hf⟩ := DataW.trod_struct Try.underlying61 ht
      match cs', hcl with
      | [v0, v1, v2, v3, v4, v5, v6, v7], _ =>
        have h0 := hf 0 _ rfl
        have h1 := hf 1 _ rfl
        have h2 := hf 2 _ rfl
        have h3 := hf 3 _ rfl
        have h4 := hf 4 _ rfl
        have h5 := hf 5 _ rfl
        have h6 := hf 6 _ rfl
        have h7 := hf 7 _ rfl
        have e0 : xs[0]? = some (xs[0]'(by rw [hxl]; decide)) := List.getElem?_eq_getElem _
        have e1 : xs[1]? = some (xs[1]'(by rw [hxl]; decide)) := List.getElem?_eq_getElem _
        have e2 : xs[2]? = some (xs[2]'(by rw [hxl]; decide)) := List.getElem?_eq_getElem _
        have e3 : xs[3]? = some (xs[3]'(by rw [hxl]; decide)) := List.getElem?_eq_getElem _
        have e4 : xs[4]? = some (xs[4]'(by rw [hxl]; decide)) := List.getElem?_eq_getElem _
        have e5 : xs[5]? = some (xs[5]'(by rw [hxl]; decide)) := List.getElem?_eq_getElem _
        have e6 : xs[6]? = some (xs[6]'(by rw [hxl]; decide)) := List.getElem?_eq_getElem _
        have e7 : xs[7]? = some (xs[7]'(by rw [hxl]; decide)) := List.getElem?_eq_getElem _
        rw [e0] at h0
        rw [e1] at h1
        rw [e2] at h2
        rw [e3] at h3
        rw [e4] at h4
        rw [e5] at h5
        rw [e6] at h6
        rw [e7] at h7
        obtain ⟨x0, hx0, _, hw0⟩ := DataW.trod_int Try.underlying3 h0
        obtain ⟨x1, hx1, _, hw1⟩ := DataW.trod_int Try.underlying3 h1
        obtain ⟨x2, hx2, _, hw2⟩ := DataW.trod_int Try.underlying3 h2
        obtain ⟨x3, hx3, _, hw3⟩ := DataW.trod_int Try.underlying23 h3
        obtain ⟨x4, hx4, _, hw4⟩ := DataW.trod_int Try.underlying23 h4
        obtain ⟨x5, hx5, _, hw5⟩ := DataW.trod_int Try.underlying3 h5
        obtain ⟨x6, hx6, _, hw6⟩ := DataW.trod_int Try.underlying23 h6
        obtain ⟨x7, hx7, _, hw7⟩ := DataW.trod_int Try.underlying23 h7
        have c0 := hat 0 (by omega)
        have c1 := hat 1 (by omega)
        have c2 := hat 2 (by omega)
        have c3 := hat 3 (by omega)
        have c4 := hat 4 (by omega)
        have c5 := hat 5 (by omega)
        have c6 := hat 6 (by omega)
        have c7 := hat 7 (by omega)
        have v0e : v0 = .int .i64 x0 := by simpa [show Try.prog.cellsOf 3 = 1 from by kernel_rfl] using hx0
        have v1e : v1 = .int .i64 x1 := by simpa [show Try.prog.cellsOf 3 = 1 from by kernel_rfl] using hx1
        have v2e : v2 = .int .i64 x2 := by simpa [show Try.prog.cellsOf 3 = 1 from by kernel_rfl] using hx2
        have v3e : v3 = .int .u64 x3 := by simpa [show Try.prog.cellsOf 23 = 1 from by kernel_rfl] using hx3
        have v4e : v4 = .int .u64 x4 := by simpa [show Try.prog.cellsOf 23 = 1 from by kernel_rfl] using hx4
        have v5e : v5 = .int .i64 x5 := by simpa [show Try.prog.cellsOf 3 = 1 from by kernel_rfl] using hx5
        have v6e : v6 = .int .u64 x6 := by simpa [show Try.prog.cellsOf 23 = 1 from by kernel_rfl] using hx6
        have v7e : v7 = .int .u64 x7 := by simpa [show Try.prog.cellsOf 23 = 1 from by kernel_rfl] using hx7
        subst v0e v1e v2e v3e v4e v5e v6e v7e
        have hr0 : -9223372036854775808 ≤ x0 ∧ x0 ≤ 9223372036854775807 := by
          simp [Lit.wf, IntKind.min, IntKind.max, IntKind.bits, IntKind.signed] at hw0
          omega
        have hr1 : -9223372036854775808 ≤ x1 ∧ x1 ≤ 9223372036854775807 := by
          simp [Lit.wf, IntKind.min, IntKind.max, IntKind.bits, IntKind.signed] at hw1
          omega
        have hr2 : -9223372036854775808 ≤ x2 ∧ x2 ≤ 9223372036854775807 := by
          simp [Lit.wf, IntKind.min, IntKind.max, IntKind.bits, IntKind.signed] at hw2
          omega
        have hr3 : 0 ≤ x3 ∧ x3 < 18446744073709551616 := by
          simp [Lit.wf, IntKind.min, IntKind.max, IntKind.bits, IntKind.signed] at hw3
          omega
        obtain ⟨y3, rfl⟩ := Int.eq_ofNat_of_zero_le hr3.1
        have hr4 : 0 ≤ x4 ∧ x4 < 18446744073709551616 := by
          simp [Lit.wf, IntKind.min, IntKind.max, IntKind.bits, IntKind.signed] at hw4
          omega
        obtain ⟨y4, rfl⟩ := Int.eq_ofNat_of_zero_le hr4.1
        have hr5 : -9223372036854775808 ≤ x5 ∧ x5 ≤ 9223372036854775807 := by
          simp [Lit.wf, IntKind.min, IntKind.max, IntKind.bits, IntKind.signed] at hw5
          omega
        have hr6 : 0 ≤ x6 ∧ x6 < 18446744073709551616 := by
          simp [Lit.wf, IntKind.min, IntKind.max, IntKind.bits, IntKind.signed] at hw6
          omega
        obtain ⟨y6, rfl⟩ := Int.eq_ofNat_of_zero_le hr6.1
        have hr7 : 0 ≤ x7 ∧ x7 < 18446744073709551616 := by
          simp [Lit.wf, IntKind.min, IntKind.max, IntKind.bits, IntKind.signed] at hw7
          omega
        obtain ⟨y7, rfl⟩ := Int.eq_ofNat_of_zero_le hr7.1
        simp only [List.getElem?_cons_zero] at c0
        simp only [List.getElem?_cons_succ, List.getElem?_cons_zero] at c1 c2 c3 c4 c5 c6 c7
        have aj : ∀ j, (Addr.add (Addr.add ⟨b, off, none⟩ (i * 8)) j) = ⟨b, off + i * 8 + j, none⟩ := fun j => by
          unfold Addr.add
          by_cases hz : i * 8 = 0 <;> by_cases hj : j = 0 <;> simp [hz, hj]
        rw [aj] at c0 c1 c2 c3 c4 c5 c6 c7
        refine ⟨⟨x0, x1, x2, y3, y4, x5, y6, y7⟩, b, off, rfl, ?_, by simpa using c0, c1, c2, c3, c4, c5, c6, c7, ⟨hr0, hr1, hr2, by have := hr3.2; show y3 < _; omega, by have := hr4.2; show y4 < _; omega, hr5, by have := hr6.2; show y6 < _; omega, by have := hr7.2; show y7 < _; omega⟩⟩
        rcases Nat.lt_or_ge b w.heap.size with hlt' | hge
        · exact hlt'
        · simp [World.cell?, Array.getElem?_eq_none hge] at c0
    have hch : ∃ f : Nat → SegR, ∀ i, i < len → ∃ b' off', some (⟨b, off, none⟩ : Addr) = some ⟨b', off', none⟩ ∧ b' < w.heap.size ∧ w.cell? ⟨b', off' + i * 8, none⟩ = some (.int .i64 (f i).typ) ∧ w.cell? ⟨b', off' + i * 8 + 1, none⟩ = some (.int .i64 (f i).flg) ∧ w.cell? ⟨b', off' + i * 8 + 2, none⟩ = some (.int .i64 (f i).off) ∧ w.cell? ⟨b', off' + i * 8 + 3, none⟩ = some (.int .u64 (f i).vad) ∧ w.cell? ⟨b', off' + i * 8 + 4, none⟩ = some (.int .u64 (f i).pad) ∧ w.cell? ⟨b', off' + i * 8 + 5, none⟩ = some (.int .i64 (f i).fsz) ∧ w.cell? ⟨b', off' + i * 8 + 6, none⟩ = some (.int .u64 (f i).msz) ∧ w.cell? ⟨b', off' + i * 8 + 7, none⟩ = some (.int .u64 (f i).aln) ∧ (f i).Ok :=
      ⟨fun i => if h : i < len then (key i h).choose else ⟨0, 0, 0, 0, 0, 0, 0, 0⟩, fun i h => by
        have := (key i h).choose_spec
        simpa [h] using this⟩
    obtain ⟨f, hf⟩ := hch
    refine ⟨some ⟨b, off, none⟩, len, cap, (List.range len).map f, hcs, by unfold maxLen at hcm; omega, by simp, fun i hi => ?_⟩
    have hi' : i < len := by simpa using hi
    have := hf i hi'
    simpa using this
end
def segCell (o : SegR) : List Value := [.int .i64 o.typ, .int .i64 o.flg, .int .i64 o.off, .int .u64 o.vad, .int .u64 o.pad, .int .i64 o.fsz, .int .u64 o.msz, .int .u64 o.aln]
def segCells (l : List SegR) : List Value := l.flatMap segCell
theorem segCells_snoc (l : List SegR) (o : SegR) : segCells (l ++ [o]) = segCells l ++ segCell o := by simp [segCells]
theorem segCells_app (l m : List SegR) : segCells (l ++ m) = segCells l ++ segCells m := by simp [segCells]
theorem segCells_len (l : List SegR) : (segCells l).length = l.length * 8 := by
  induction l with
  | nil => rfl
  | cons o l ih =>
    have e : segCells (o :: l) = segCell o ++ segCells l := by simp [segCells]
    have e4 : (segCell o).length = 8 := rfl
    rw [e, List.length_append, ih, List.length_cons]; omega
theorem segCells_get (l : List SegR) (i : Nat) (h : i < l.length) (j : Nat) (hj : j < 8) : (segCells l)[i * 8 + j]? = (segCell l[i])[j]? := by
  induction l generalizing i with
  | nil => simp at h
  | cons o l ih =>
    have e : segCells (o :: l) = segCell o ++ segCells l := by simp [segCells]
    have e4 : (segCell o).length = 8 := rfl
    rw [e]
    cases i with
    | zero =>
      rw [Nat.zero_mul, Nat.zero_add, List.getElem?_append_left (by omega)]
      rfl
    | succ i =>
      rw [List.getElem?_append_right (by omega), show (i + 1) * 8 + j - (segCell o).length = i * 8 + j by omega]
      exact ih i (by simpa using h)
theorem SegAt.of_cells {w : World} {g : Nat} {l : List SegR} (hlt : l.length ≠ 0 → g < w.heap.size) (hc : ∀ j u, (segCells l)[j]? = some u → w.cell? ⟨g, j, none⟩ = some u) (hv : ∀ o ∈ l, o.Ok) : SegAt w (some ⟨g, 0, none⟩) l := fun i hi => by
  have key : ∀ j, j < 8 → ∀ u, (segCell l[i])[j]? = some u → w.cell? ⟨g, 0 + i * 8 + j, none⟩ = some u := fun j hj u hu => by
    have := hc (i * 8 + j) u (by rw [segCells_get l i hi j hj, hu])
    rw [Nat.zero_add]; exact this
  exact ⟨g, 0, rfl, hlt (by omega), key 0 (by omega) _ rfl, key 1 (by omega) _ rfl, key 2 (by omega) _ rfl, key 3 (by omega) _ rfl, key 4 (by omega) _ rfl, key 5 (by omega) _ rfl, key 6 (by omega) _ rfl, key 7 (by omega) _ rfl, hv _ (List.getElem_mem _)⟩
theorem SegAt.of_own {w : World} {B : Nat} {ao : Option Addr} {n cap : Nat} {l : List SegR} (h : w.ownsRow B 61 8 (.slice ao n cap) l.length (segCells l)) (hv : ∀ o ∈ l, o.Ok) : SegAt w ao l := by
  rcases h.2 with ⟨h1, h2⟩ | ⟨g, cap', cur, h1, h3, h2, _⟩
  · intro i hi; omega
  · injection h1 with e1 e2 e3
    subst e1
    subst e2
    refine SegAt.of_cells (fun _ => (Array.getElem?_eq_some_iff.1 h2).1) (fun j u hu => ?_) hv
    have := h.cells (g := g) rfl j u hu
    have ea : (Addr.add ⟨g, 0, none⟩ j) = ⟨g, j, none⟩ := by
      unfold Addr.add
      by_cases hz : j = 0
      · simp [hz]
      · simp; omega
    rwa [ea] at this
theorem segKInfo : (Try.prog.info? 61).map (fun i => (i.zero, i.size, i.bytes)) = some (some (.agg #[.int .i64 0, .int .i64 0, .int .i64 0, .int .u64 0, .int .u64 0, .int .i64 0, .int .u64 0, .int .u64 0]), 8, 64) := by kernel_rfl
end Go.Proofs.Ytciaebhkemdilaa
/- A row of structs, element by element. No program in it. -/
namespace Go.Proofs.Ytciaebhkemdilaa
open Go.RowKit
set_option linter.unusedVariables false
theorem setL_size : ∀ (l : List Value) (i : Nat) (cs : Array Value), (setL l i cs).size = cs.size
  | [], _, _ => rfl
  | v :: r, i, cs => by rw [setL, setL_size]; simp
theorem setL_get : ∀ (l : List Value) (i : Nat) (cs : Array Value) (k : Nat), k < cs.size → (setL l i cs)[k]? = if i ≤ k ∧ k < i + l.length then l[k - i]? else cs[k]?
  | [], i, cs, k, h => by rw [setL, if_neg (by simp)]
  | v :: r, i, cs, k, h => by
    rw [setL, setL_get r (i + 1) _ k (by simpa using h)]
    by_cases e : k = i
    · subst e
      rw [if_neg (by omega), if_pos ⟨Nat.le_refl _, by simp⟩, Nat.sub_self]
      rw [Array.getElem?_setIfInBounds_self]
      simp [h]
    · by_cases h1 : i + 1 ≤ k ∧ k < i + 1 + r.length
      · rw [if_pos h1, if_pos ⟨by omega, by simp; omega⟩]
        rw [show k - i = (k - (i + 1)) + 1 by omega, List.getElem?_cons_succ]
      · rw [if_neg h1, if_neg (by simp; omega), Array.getElem?_setIfInBounds_ne (by omega)]
/-- n elements of z cells each, f i the cells of the i-th. -/
structure RowZ (t : TypeId) (z : Nat) (w : World) (g n : Nat) (f : Nat → List Value) : Prop where
  has : ∃ cs, Has w g t cs ∧ cs.size = n * z ∧ ∀ i, i < n → ∀ j, j < z → cs[i * z + j]? = (f i)[j]?
  len : ∀ i, i < n → (f i).length = z
section
variable {t : TypeId} {z : Nat} {w w' : World} {g n : Nat} {f : Nat → List Value}
theorem row_lt {i j n z : Nat} (hi : i < n) (hj : j < z) : i * z + j < n * z := by
  have h := Nat.mul_le_mul_right z (show i + 1 ≤ n from hi)
  rw [Nat.succ_mul] at h
  omega
theorem row_eq {i k j m z : Nat} (hj : j < z) (hm : m < z) (h : i * z + j = k * z + m) : i = k ∧ j = m := by
  rcases Nat.lt_trichotomy i k with h1 | h1 | h1
  · have := Nat.mul_le_mul_right z (show i + 1 ≤ k from h1)
    rw [Nat.succ_mul] at this; omega
  · subst h1; exact ⟨rfl, by omega⟩
  · have := Nat.mul_le_mul_right z (show k + 1 ≤ i from h1)
    rw [Nat.succ_mul] at this; omega
theorem RowZ.cell (h : RowZ t z w g n f) {i j : Nat} (hi : i < n) (hj : j < z) : w.cell? ⟨g, i * z + j, none⟩ = (f i)[j]? := by
  obtain ⟨cs, a, b, c⟩ := h.has
  rw [a.cell, c i hi j hj]
theorem RowZ.frozen (h : RowZ t z w g n f) (k : Nat) : w.frozen? ⟨g, k, none⟩ = false := by
  obtain ⟨cs, a, b, c⟩ := h.has
  exact a.frozen k
theorem RowZ.range (h : RowZ t z w g n f) {i : Nat} (hi : i < n) : w.rangeAt g (i * z) (f i) := fun j v hv => by
  have hj : j < z := by rw [← h.len i hi]; exact (List.getElem?_eq_some_iff.1 hv).1
  rw [h.cell hi hj, hv]
theorem RowZ.there (h : RowZ t z w g n f) {i : Nat} (hi : i < n) : w.there g (i * z) z := fun j hj => by
  rw [h.cell hi hj, h.frozen]
  refine ⟨?_, rfl⟩
  rw [List.getElem?_eq_getElem (by rw [h.len i hi]; exact hj)]
  rfl
theorem RowZ.keep (h : RowZ t z w g n f) (hk : w'.heap[g]? = w.heap[g]?) : RowZ t z w' g n f := by
  obtain ⟨cs, a, b, c⟩ := h.has
  exact ⟨⟨cs, hk.trans a, b, c⟩, h.len⟩
theorem RowZ.lt (h : RowZ t z w g n f) : g < w.heap.size := by
  obtain ⟨cs, a, b, c⟩ := h.has
  exact a.lt
theorem RowZ.bw (h : RowZ t z w g n f) (hb : Bw w w') : RowZ t z w' g n f := h.keep (Below.block hb g h.lt)
theorem RowZ.keeps {F : Nat → Prop} (h : RowZ t z w g n f) (hk : Keeps F w w') (hg : ¬ F g) : RowZ t z w' g n f := h.keep (hk.block g h.lt hg)
theorem RowZ.set (h : RowZ t z w g n f) {i : Nat} (hi : i < n) {vs : List Value} (hv : vs.length = z) : RowZ t z (w.setCells g (i * z) vs) g n (fun k => if k = i then vs else f k) := by
  obtain ⟨cs, a, b, c⟩ := h.has
  refine ⟨⟨setL vs (i * z) cs, by rw [setCells_put]; exact putL_has a, by rw [setL_size]; exact b, fun k hk j hj => ?_⟩, fun k hk => ?_⟩
  · rw [setL_get _ _ _ _ (by rw [b]; exact row_lt hk hj)]
    by_cases e : k = i
    · subst e
      rw [if_pos ⟨by omega, by rw [hv]; omega⟩, Nat.add_sub_cancel_left, if_pos rfl]
    · rw [if_neg e, if_neg, c k hk j hj]
      intro ⟨h1, h2⟩
      rw [hv] at h2
      exact e (row_eq (m := k * z + j - i * z) hj (by omega) (by omega)).1
  · by_cases e : k = i
    · simp only [if_pos e]; exact hv
    · simp only [if_neg e]; exact h.len k hk
theorem RowZ.put (h : RowZ t z w g n f) {i j : Nat} (hi : i < n) (hj : j < z) (v : Value) : RowZ t z (w.setCell ⟨g, i * z + j, none⟩ v) g n (fun k => if k = i then (f i).set j v else f k) := by
  obtain ⟨cs, a, b, c⟩ := h.has
  refine ⟨⟨_, a.put (i * z + j) v, by simp [b], fun k hk m hm => ?_⟩, fun k hk => ?_⟩
  · by_cases e : k = i ∧ m = j
    · obtain ⟨rfl, rfl⟩ := e
      rw [Array.getElem?_setIfInBounds_self, if_pos rfl, if_pos (by rw [b]; exact row_lt hk hm), List.getElem?_set_self (by rw [h.len k hk]; exact hm)]
    · rw [Array.getElem?_setIfInBounds_ne (fun x => e ((row_eq hj hm x).imp Eq.symm Eq.symm)), c k hk m hm]
      by_cases e2 : k = i
      · subst e2
        rw [if_pos rfl, List.getElem?_set_ne (fun x => e ⟨rfl, x.symm⟩)]
      · rw [if_neg e2]
  · by_cases e : k = i
    · simp only [if_pos e, List.length_set]; exact h.len i hi
    · simp only [if_neg e]; exact h.len k hk
theorem RowZ.congr {f' : Nat → List Value} (h : RowZ t z w g n f) (he : ∀ i, i < n → f i = f' i) : RowZ t z w g n f' := by
  obtain ⟨cs, a, b, c⟩ := h.has
  exact ⟨⟨cs, a, b, fun i hi j hj => by rw [← he i hi]; exact c i hi j hj⟩, fun i hi => by rw [← he i hi]; exact h.len i hi⟩
theorem RowZ.made (w : World) (t : TypeId) (Z : Array Value) (n : Nat) : RowZ t Z.size (w.alloc (.cells (madeCells Z (n * Z.size)) t)) w.heap.size n (fun _ => Z.toList) := by
  refine ⟨⟨_, Has.new w t _, by rw [size_madeCells], fun i hi j hj => ?_⟩, fun i hi => by simp⟩
  have hlt := row_lt hi hj
  unfold madeCells
  rw [Array.getElem?_map, Array.getElem?_range, if_pos hlt, Option.map_some]
  have hm : (i * Z.size + j) % Z.size = j := by
    rw [Nat.add_comm, Nat.add_mul_mod_self_right, Nat.mod_eq_of_lt hj]
  rw [hm, getElem!_pos Z j hj]
  simp [hj]
end
theorem Bw.seg {w0 w : World} {g : Nat} (h : Bw w0 w) (hg : w0.heap.size ≤ g) (o : Nat) (l : List Value) : Bw w0 (w.setCells g o l) := by
  rw [setCells_put]; exact putL_below hg h
theorem Keeps.seg {F : Nat → Prop} {a w : World} {g : Nat} (h : Keeps F a w) (hg : a.heap.size ≤ g) (o : Nat) (l : List Value) : Keeps F a (w.setCells g o l) := by
  rw [setCells_put]
  have hb := putL_below (B := 0) (g := g) (Nat.zero_le _) (l := l) (i := o) (Below.refl 0 w)
  exact ⟨hb.os.trans h.os, hb.tape.trans h.tape, hb.output.trans h.output, by rw [putL_size]; exact h.size, fun i hi hn => (putL_heap (by omega)).trans (h.block i hi hn)⟩
theorem Has.seg_far {w : World} {g b : Nat} {t : TypeId} {cs : Array Value} (h : Has w b t cs) (hb : b ≠ g) (o : Nat) (l : List Value) : Has (w.setCells g o l) b t cs := by
  rw [setCells_put]; exact putL_far hb h
end Go.Proofs.Ytciaebhkemdilaa
/- Texts as lists: == on them. No program in it. -/
namespace Go.Proofs.Ytciaebhkemdilaa
open Go.RowKit
set_option linter.unusedVariables false
theorem loop_data (n : Nat) : ∀ (d : ByteArray) (i : Nat) (r : List UInt8), d.size - i = n → ByteArray.toList.loop d i r = r.reverse ++ d.data.toList.drop i := by
  induction n with
  | zero =>
    intro d i r h
    have hl : d.data.toList.length = d.size := by simp
    rw [ByteArray.toList.loop, if_neg (by omega), List.drop_of_length_le (by omega), List.append_nil]
  | succ n ih =>
    intro d i r h
    have hl : d.data.toList.length = d.size := by simp
    rw [ByteArray.toList.loop, if_pos (by omega), ih d (i + 1) _ (by omega), List.reverse_cons, List.append_assoc, List.drop_eq_getElem_cons (i := i) (by omega)]
    congr 2
    show [d.get! i] ++ _ = _
    have : d.get! i = d.data.toList[i]'(by omega) := by
      have hi : i < d.data.size := by have : d.data.size = d.size := rfl; omega
      show d.data[i]! = _
      rw [getElem!_pos d.data i hi]
      simp
    rw [this]
    rfl
theorem toList_data (d : ByteArray) : d.toList = d.data.toList := by
  unfold ByteArray.toList
  rw [loop_data _ d 0 [] rfl]
  simp
theorem str_ne {a b : ByteArray} (h : a ≠ b) : (a.toList == b.toList) = false := by
  rw [beq_eq_false_iff_ne]
  intro e
  apply h
  rw [toList_data, toList_data] at e
  obtain ⟨a⟩ := a
  obtain ⟨b⟩ := b
  congr 1
  exact Array.toList_inj.1 e
theorem str_nl {s : ByteArray} {l : List UInt8} (h : s ≠ ⟨l.toArray⟩) : (s.toList == l) = false := by
  rw [beq_eq_false_iff_ne, toList_data]
  intro e
  exact h (ba_ext e)
theorem str_is {s : ByteArray} {l : List UInt8} (h : s = ⟨l.toArray⟩) : (s.toList == l) = true := by
  rw [beq_iff_eq, toList_data, h]
end Go.Proofs.Ytciaebhkemdilaa

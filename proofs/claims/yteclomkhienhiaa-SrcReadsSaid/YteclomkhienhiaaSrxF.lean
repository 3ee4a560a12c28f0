/- What the document's New and SameSpans, and src's Reads, return and leave. -/
import Derived.Test.YteclomkhienhiaaSrxE
import Derived.Lib.SliceRun
namespace Go.Proofs.Yteclomkhienhiaa
open Go.RowKit Go.Conc
set_option linter.unusedVariables false
def RNewGood (s : ByteArray) (l : List (Int × Int)) (w : World) (e : Ending) (w' : World) : Prop :=
  ∃ g F, e = .returned (.tuple #[.pointer (some ⟨g, 0, none⟩), .int .i64 0]) ∧ Srx F w' g s l [] ∧ (∀ i, F i → w.heap.size ≤ i) ∧ Bw w w'
set_option maxRecDepth 100000 in
set_option maxHeartbeats 1000000 in
theorem rnew_bad (s : ByteArray) (a : Option Addr) (len cap : Nat) (hlen : len ≤ 9223372036854775807) (l : List (Int × Int)) (hll : Hid (l.length = len)) (hok : newOk l = false) (w : World) (hst : StepsAt w a l) :
    Calls Try.prog 11 #[.string s, .slice a len cap] w fun e w' => e = .returned (.tuple #[.pointer none, .int .i64 1]) ∧ Bw w w' := by
  have hm := may_any a len cap hlen l hll w hst
  rw [hok] at hm
  have HM := hid hm
  clear hm hok hst
  go_enter Try.func11, Try.ntmps11
  go_wp2_with fail
  refine HM.out.mono ?_
  rintro e w1 ⟨rfl, h1⟩
  go_wp2
  go_returns
  exact ⟨rfl, h1⟩
set_option maxRecDepth 100000 in
set_option maxHeartbeats 1000000 in
theorem rnew_good (s : ByteArray) (a : Option Addr) (len cap : Nat) (hA : a = none → cap = 0) (l : List (Int × Int)) (hll : Hid (l.length = len)) (hok : newOk l = true) (w : World) (hst : StepsAt w a l) :
    Calls Try.prog 11 #[.string s, .slice a len cap] w (RNewGood s l w) := by
  have hl1 : len ≤ 1000 := by
    unfold newOk at hok
    rw [Bool.and_eq_true] at hok
    have := of_decide_eq_true hok.1
    rw [hll.out] at this
    exact this
  have hm := may_any a len cap (by omega) l hll w hst
  rw [hok] at hm
  have HM := hid hm
  have HST := hid hst
  have HA := hid hA
  clear hm hok hst hA
  go_enter Try.func11, Try.ntmps11
  go_wp2_with fail
  refine HM.out.mono ?_
  rintro e w1 ⟨rfl, h1⟩
  have H1 := hid h1
  clear h1
  have hg := Has.new w1 41 #[.string s, .slice none 0 0, .slice none 0 0]
  have HG := hid hg
  have hst2 := HST.out.below (H1.out.alloc (.cells #[.string s, .slice none 0 0, .slice none 0 0] 41))
  have HST2 := hid hst2
  clear hg hst2
  go_wp2_with (at_builtin; go_loud (refine wpList_app_steps rfl _ _ rfl rfl rfl HA.out HST2.out hll.out (by omega) ?_; intro v' w5 hown hbw hnew; obtain ⟨ao, cap2, rfl⟩ := own_slice hown; have h5 : Has w5 w1.heap.size 41 #[.string s, .slice none 0 0, .slice none 0 0] := hbw.has HG.out; have y1 : w5.cell? ⟨w1.heap.size, 1, none⟩ = some (.slice none 0 0) := h5.cell 1; have z1 := h5.frozen 1; have H5 := hid h5; have HO := hid hown; have HB := hid hbw; have HN := hid hnew; clear h5 hown hbw hnew))
  go_returns
  have hs1 := H1.out.size
  have hs5 := HB.out.size
  simp at hs5
  have hne : (Value.slice ao l.length cap2).ownBlock ≠ some w1.heap.size := own_ne_has HO.out H5.out (by decide)
  have hown6 : (w5.setCell ⟨w1.heap.size, 1, none⟩ (.slice ao l.length cap2)).ownsRow 0 33 2 (.slice ao l.length cap2) l.length (stepCells l) := own_keep HO.out (fun b hb => Below.heap_setCell w5 ⟨w1.heap.size, 1, none⟩ _ b (fun e => hne (by rw [hb, e])))
  have hao : ∀ b off, ao = some ⟨b, off, none⟩ → (Value.slice ao l.length cap2).ownBlock = some b := fun b off e => by subst e; rfl
  refine ⟨w1.heap.size, fun i => i = w1.heap.size ∨ (Value.slice ao l.length cap2).ownBlock = some i, rfl, ⟨ao, cap2, .slice none 0 0, ⟨by simpa using H5.out.put 1 (.slice ao l.length cap2), steps_own hown6, ⟨rfl, .inl ⟨rfl, rfl⟩⟩, ?_, fun b off e => ⟨fun h => ?_, by simp [Value.ownBlock], own_lt hown6 (hao b off e)⟩⟩, .inl rfl, fun b hb => by simp [Value.ownBlock] at hb, fun b off e => .inr (hao b off e), fun i h => ?_⟩, fun i h => ?_, ?_⟩
  · rcases HO.out.2 with ⟨_, h0⟩ | ⟨g, c2, cur, he, _, _, hc, _⟩
    · rw [h0]; exact Nat.zero_le _
    · injection he with _ _ e3; rw [e3]; exact hc
  · subst h; exact hne (hao _ off e)
  · rcases h with h | h
    · subst h; simp [World.setCell]; omega
    · exact own_lt hown6 h
  · rcases h with h | h
    · omega
    · have := HN.out i h; simp at this; omega
  · exact Bw.trans (H1.out.alloc _) (HB.out) |> fun h => Below.setCell h (by exact hs1) _
/-- The cells of a slice of spans. -/
def SpansAt (w : World) (a : Option Addr) (l : List (Nat × Nat)) : Prop :=
  ∀ i (h : i < l.length), ∃ b off, a = some ⟨b, off, none⟩ ∧ b < w.heap.size ∧ w.cell? ⟨b, off + i * 2, none⟩ = some (.int .i64 ((l[i]'h).1 : Nat)) ∧ w.cell? ⟨b, off + i * 2 + 1, none⟩ = some (.int .i64 ((l[i]'h).2 : Nat))
theorem spanCells_get (l : List (Nat × Nat)) (i : Nat) (h : i < l.length) : (spanCells l)[i * 2]? = some (.int .i64 (l[i].1 : Nat)) ∧ (spanCells l)[i * 2 + 1]? = some (.int .i64 (l[i].2 : Nat)) := by
  induction l generalizing i with
  | nil => simp at h
  | cons x l ih =>
    have e : spanCells (x :: l) = .int .i64 x.1 :: .int .i64 x.2 :: spanCells l := by simp [spanCells]
    rw [e]
    cases i with
    | zero => exact ⟨rfl, rfl⟩
    | succ i =>
      have := ih i (by simpa using h)
      rw [show (i + 1) * 2 = i * 2 + 1 + 1 by omega]
      simpa using this
theorem spans_own {w : World} {ao : Option Addr} {n cap : Nat} {l : List (Nat × Nat)} (h : w.ownsRow 0 45 2 (.slice ao n cap) l.length (spanCells l)) : SpansAt w ao l := fun i hi => by
  rcases h.2 with ⟨h1, h2⟩ | ⟨g, cap', cur, h1, h2⟩
  · omega
  · injection h1 with e1 e2 e3
    subst e1
    subst e2
    have hc := h.cells (g := g) rfl
    have hlt : g < w.heap.size := own_lt h (b := g) rfl
    have key : ∀ j u, (spanCells l)[j]? = some u → w.cell? ⟨g, j, none⟩ = some u := fun j u hu => by
      have := hc j u hu
      have ea : (Addr.add ⟨g, 0, none⟩ j) = ⟨g, j, none⟩ := by
        unfold Addr.add; by_cases hz : j = 0 <;> simp [hz]
      rwa [ea] at this
    obtain ⟨h3, h4⟩ := spanCells_get l i hi
    exact ⟨g, 0, rfl, hlt, by simpa using key _ _ h3, by simpa using key _ _ h4⟩
set_option maxRecDepth 100000 in
set_option maxHeartbeats 1000000 in
theorem same_any (a b : Option Addr) (len capa capb : Nat) (hlen : len ≤ 1000000000) (l : List (Nat × Nat)) (hll : Hid (l.length = len)) (w : World) (h1 : SpansAt w a l) (h2 : SpansAt w b l) :
    Calls Try.prog 18 #[.slice a len capa, .slice b len capb] w fun e w' => e = .returned (.bool true) ∧ ∃ z, w' = w.drewN z := by
  have H1 := hid h1
  have H2 := hid h2
  clear h1 h2
  go_enter Try.func18, Try.ntmps18
  go_wp2
  go_loopw [5] (fun i wr => ∃ j : Nat, j ≤ len ∧ i = .int .i64 j ∧ ∃ z, wr = w.drewN z) (fun i _ => len - (intOf i).toNat)
  case atStart => exact ⟨0, Nat.zero_le _, rfl, 0, rfl⟩
  case round =>
    obtain ⟨j, hj, rfl, z, hz⟩ := hrel
    have HZ := hid hz
    by_cases hlt : j < len
    · have hjl : j < l.length := by rw [hll.out]; exact hlt
      obtain ⟨b1, off1, rfl, _, c0, c1⟩ := H1.out j hjl
      obtain ⟨b2, off2, rfl, _, k0, k1⟩ := H2.out j hjl
      have c0 := (show (w.drewN z).cell? ⟨b1, off1 + j * 2, none⟩ = some (.int .i64 (l[j].1 : Nat)) by simpa using c0)
      have c1 := (show (w.drewN z).cell? ⟨b1, off1 + j * 2 + 1, none⟩ = some (.int .i64 (l[j].2 : Nat)) by simpa using c1)
      have k0 := (show (w.drewN z).cell? ⟨b2, off2 + j * 2, none⟩ = some (.int .i64 (l[j].1 : Nat)) by simpa using k0)
      have k1 := (show (w.drewN z).cell? ⟨b2, off2 + j * 2 + 1, none⟩ = some (.int .i64 (l[j].2 : Nat)) by simpa using k1)
      rw [← hz] at c0 c1 k0 k1
      clear hz
      generalize l[j].1 = x at *
      generalize l[j].2 = y at *
      go_wp2_with fail
      go_quiet (fail)
      go_wp2
      go_roundw
      case rel => exact ⟨j + 1, by omega, by go_num, z + nq, by rw [HZ.out]; simp⟩
      case measure => simp [intOf]; omega
    · clear hz
      go_wp2
      go_returns
      exact ⟨rfl, z, HZ.out⟩
theorem spanCells_len (l : List (Nat × Nat)) : (spanCells l).length = l.length * 2 := by
  induction l with
  | nil => rfl
  | cons x l ih =>
    have e : spanCells (x :: l) = [.int .i64 x.1, .int .i64 x.2] ++ spanCells l := by simp [spanCells]
    rw [e, List.length_append, ih, List.length_cons]
    simp only [List.length_cons, List.length_nil]
    omega
def ReadsPost (sp : List (Nat × Nat)) (w : World) (e : Ending) (w' : World) : Prop :=
  ∃ v', e = .returned v' ∧ w'.ownsRow 0 45 2 v' sp.length (spanCells sp) ∧ Bw w w' ∧ ∀ b, v'.ownBlock = some b → w.heap.size ≤ b
set_option maxRecDepth 100000 in
set_option maxHeartbeats 1000000 in
theorem clone_some (b cap : Nat) (sp : List (Nat × Nat)) (hsp : sp.length ≤ 1000000000) (w : World) (h : w.ownsRow 0 45 2 (.slice (some ⟨b, 0, none⟩) sp.length cap) sp.length (spanCells sp)) :
    Calls Try.prog 44 #[.slice (some ⟨b, 0, none⟩) sp.length cap] w (ReadsPost sp w) := by
  obtain ⟨i0, hi, hz0, hz1, hz2⟩ := info_parts spanInfo
  have hbl : b < w.heap.size := own_lt h (b := b) rfl
  have hcells : ∀ j u, (spanCells sp)[j]? = some u → (w.alloc (.cells #[] 45)).cell? ((⟨b, 0, none⟩ : Addr).add j) = some u := fun j u hj => by
    have h1 := h.cells (g := b) rfl j u hj
    have ha : (Addr.add ⟨b, 0, none⟩ j) = ⟨b, j, none⟩ := by
      unfold Addr.add; by_cases hz : j = 0 <;> simp [hz]
    rw [ha] at h1 ⊢
    rw [World.cell?_alloc_lt _ _ _ hbl]
    exact h1
  have hown : (w.alloc (.cells #[] 45)).ownsRow w.heap.size 45 2 (.slice (some ⟨w.heap.size, 0, none⟩) 0 0) 0 [] :=
    ⟨rfl, .inr ⟨w.heap.size, 0, #[], rfl, Nat.le_refl _, heap_alloc_new w _, Nat.le_refl _, by unfold maxLen; omega, rfl, rfl⟩⟩
  have hone : ∀ u ∈ spanCells sp, u.oneCell' = true := fun u hu => by
    simp only [spanCells, List.mem_flatMap] at hu
    obtain ⟨y, _, hy⟩ := hu
    simp at hy
    rcases hy with rfl | rfl <;> rfl
  have hnil := fun w => Lib.run_eql_slice_nil (P := Try.prog) w 39 45 (some ⟨b, 0, none⟩) sp.length cap 0 0 Try.underlying39
  have HC := hid hcells
  have HO := hid hown
  have H1 := hid hone
  have HL := hid (spanCells_len sp)
  clear h hcells hown hone
  go_enter Try.func44, Try.ntmps44
  go_wp2_with (at_builtin; refine wpList_append_own_at _ rfl (.tmp 5) (.tmp 6) 39 rfl w.heap.size 45 i0 (.agg #[.int .i64 0, .int .i64 0]) 2 16 Try.underlying39 hi hz0 hz1 hz2 rfl (by decide) (.slice (some ⟨w.heap.size, 0, none⟩) 0 0) 0 [] rfl HO.out ⟨b, 0, none⟩ sp.length cap (spanCells sp) rfl HL.out HC.out H1.out (by unfold maxLen; omega) (by omega) (by simp) ?_; intro rd' w5 hown5 hgrow5 _ _; obtain ⟨ao, cap2, rfl⟩ : ∃ ao cap2, rd' = .slice ao (0 + sp.length) cap2 := own_slice hown5; have HO5 := hid hown5; have HG5 := hid hgrow5; clear hown5 hgrow5)
  go_returns
  have ho5 := HO5.out
  rw [Nat.zero_add, List.nil_append] at ho5
  refine ⟨_, rfl, ⟨ho5.1, ?_⟩, ⟨HG5.out.os, HG5.out.tape, HG5.out.output, by have := HG5.out.size; simp at this; omega, fun i hi => (HG5.out.block i (by simp; omega) (fun e => ?_)).trans (Below.heap_alloc w _ i hi)⟩, fun b' hb' => ?_⟩
  · rcases ho5.2 with h | ⟨g, c, cur, e1, _, e3⟩
    · exact .inl (by simpa using h)
    · exact .inr ⟨g, c, cur, by simpa using e1, Nat.zero_le _, e3⟩
  · have e1 := Option.some.inj e
    simp at e1
    omega
  · rcases ho5.2 with ⟨h, _⟩ | ⟨g, c, cur, e1, e2, _⟩
    · injection h with h _; subst h; simp [Value.ownBlock] at hb'
    · injection e1 with e1 _
      subst e1
      have : g = b' := by simpa [Value.ownBlock] using hb'
      omega
set_option maxHeartbeats 1000000 in
theorem reads_any (F : Nat → Prop) (g : Nat) (s : ByteArray) (l : List (Int × Int)) (sp : List (Nat × Nat)) (hsp : sp.length ≤ 1000000000) (w : World) (h : SrcF F w g s l sp) :
    Calls Try.prog 17 #[.pointer (some ⟨g, 0, none⟩)] w (ReadsPost sp w) := by
  obtain ⟨c, rd, _, _, _, _, hH, _, hR⟩ := h
  have c2 : w.cell? ⟨g, 2, none⟩ = some rd := hH.cell 2
  rcases hR.2 with ⟨rfl, h0⟩ | ⟨b, cap, cur, rfl, _⟩
  · have hs0 : sp = [] := List.eq_nil_of_length_eq_zero h0
    subst hs0
    have hcl : Calls Try.prog 44 #[.slice none 0 0] w fun e w' => e = .returned (.slice none 0 0) ∧ w = w' := by
      have hnil := fun w => Lib.run_eql_slice_nil (P := Try.prog) w 39 45 none 0 0 0 0 Try.underlying39
      go_enter Try.func44, Try.ntmps44
      go_wp2
      go_returns
      exact ⟨rfl, rfl⟩
    have HCL := hid hcl
    clear hcl hH hR h0
    go_enter Try.func17, Try.ntmps17
    go_wp2_with fail
    refine HCL.out.mono ?_
    rintro e w' ⟨rfl, rfl⟩
    go_wp2
    go_returns
    exact ⟨_, rfl, ⟨rfl, .inl ⟨rfl, rfl⟩⟩, Bw.refl _, fun b hb => by simp [Value.ownBlock] at hb⟩
  · have HCL := hid (clone_some b cap sp hsp w hR)
    clear hH hR
    go_enter Try.func17, Try.ntmps17
    go_wp2_with fail
    refine HCL.out.mono ?_
    rintro e w' ⟨v', rfl, h1, h2, h3⟩
    have H1 := hid h1
    have H2 := hid h2
    have H3 := hid h3
    clear h1 h2 h3
    go_wp2
    go_returns
    exact ⟨v', rfl, H1.out, H2.out, H3.out⟩
end Go.Proofs.Yteclomkhienhiaa

/- What ReadAt of the document's source returns, and what it leaves. -/
import Derived.Test.YteclomkhienhiaaSrxB
namespace Go.Proofs.Yteclomkhienhiaa
open Go.RowKit Go.Conc
set_option linter.unusedVariables false
theorem Keeps.of_setCell {F : Nat → Prop} {w : World} {p : Addr} (hp : F p.block) (u : Value) : Keeps F w (w.setCell p u) := (Keeps.refl F w).setCell (.inl hp) u
theorem two_at {W : World} {n : Nat} (h : W.heap.size = n) (x y : Value) (t : TypeId) : ∀ j u, [x, y][j]? = some u → (W.alloc (.cells #[x, y] t)).cell? ((⟨n, 0, none⟩ : Addr).add j) = some u := by
  subst h; exact own_two W x y t
theorem rx_fin0 {F : Nat → Prop} {w W : World} {g : Nat} {s : ByteArray} {ao : Option Addr} {cap : Nat} {rd : Value} {l : List (Int × Int)} {sp : List (Nat × Nat)} (hB : SrxB W g s ao cap rd l sp) (hK : Keeps (· = g) w W) (h1 : F g) (h2 : ∀ b, rd.ownBlock = some b → F b) (h3 : ∀ b off, ao = some ⟨b, off, none⟩ → F b) (h4 : ∀ i, F i → i < w.heap.size) :
    ∃ F', Srx F' W g s l sp ∧ Keeps F w W ∧ ∀ i, F' i → F i ∨ w.heap.size ≤ i :=
  ⟨F, ⟨ao, cap, rd, hB, h1, h2, h3, fun i h => Nat.lt_of_lt_of_le (h4 i h) hK.size⟩, hK.mono (fun i _ h => by rw [h]; exact h1), fun i h => .inl h⟩
theorem rx_fin1 {F : Nat → Prop} {w W w5 : World} {g p k : Nat} {s : ByteArray} {ao : Option Addr} {cap : Nat} {rd rd' : Value} {l : List (Int × Int)} {sp : List (Nat × Nat)} {o : Obj} (hB : SrxB W g s ao cap rd l sp) (hK : Keeps (· = g) w W) (h1 : F g) (h2 : ∀ b, rd.ownBlock = some b → F b) (h3 : ∀ b off, ao = some ⟨b, off, none⟩ → F b) (h4 : ∀ i, F i → i < w.heap.size)
    (hg : (W.alloc o).grownBy w5 rd.ownBlock) (hO : w5.ownsRow 0 45 2 rd' (sp.length + 1) (spanCells sp ++ [.int .i64 p, .int .i64 ((p + k : Nat) : Int)])) (hb : rd'.ownBlock = rd.ownBlock ∨ rd'.ownBlock = some (W.alloc o).heap.size) :
    ∃ F', Srx F' (w5.setCell ⟨g, 2, none⟩ rd') g s l (sp ++ [(p, p + k)]) ∧ Keeps F w (w5.setCell ⟨g, 2, none⟩ rd') ∧ ∀ i, F' i → F i ∨ w.heap.size ≤ i := by
  have hz := hK.size
  have hgz := hg.size
  have ha : (W.alloc o).heap.size = W.heap.size + 1 := by simp
  rw [ha] at hgz
  have hH5 : Has w5 g 41 #[.string s, .slice ao l.length cap, rd] := (hg.block g (by have := hB.blk.lt; omega) (fun e => hB.ne e.symm)).trans (hB.blk.alloc _)
  have hne : rd'.ownBlock ≠ some g := own_ne_has hO hH5 (by decide)
  have hK5 : Keeps (fun i => rd.ownBlock = some i ∨ i = g) W (w5.setCell ⟨g, 2, none⟩ rd') := ((((Keeps.refl _ W).alloc o).grown hg (fun b h => .inl h))).setCell (p := ⟨g, 2, none⟩) (.inl (.inr rfl)) _
  have hs5 : (w5.setCell ⟨g, 2, none⟩ rd').heap.size = w5.heap.size := by simp [World.setCell]
  refine ⟨fun i => F i ∨ (w.heap.size ≤ i ∧ i < w5.heap.size), ⟨ao, cap, rd', ⟨by simpa using hH5.put 2 rd', hB.st.keep hK5 (fun b off e h => ?_), ?_, hB.cp, fun b off e => ⟨(hB.apart b off e).1, ?_, ?_⟩⟩, .inl h1, fun b hbb => ?_, fun b off e => .inl (h3 b off e), fun i h => ?_⟩, ?_, fun i h => ?_⟩
  · rcases h with h | h
    · exact (hB.apart b off e).2.1 h
    · exact (hB.apart b off e).1 h
  · rw [spanCells_snoc, List.length_append]
    refine own_keep ?_ (fun b hbb => Below.heap_setCell w5 ⟨g, 2, none⟩ rd' b (fun e => hne (by rw [hbb, e])))
    simpa using hO
  · rcases hb with h | h
    · rw [h]; exact (hB.apart b off e).2.1
    · rw [h, ha]; intro e2
      have := (hB.apart b off e).2.2
      have e3 := Option.some.inj e2
      omega
  · rw [hs5]; have := (hB.apart b off e).2.2; omega
  · rcases hb with h | h
    · exact .inl (h2 b (by rw [← h]; exact hbb))
    · right
      rw [h, ha] at hbb
      have e3 := Option.some.inj hbb
      have := own_lt hO (b := b) (by rw [h, ha, e3])
      exact ⟨by omega, this⟩
  · rw [hs5]
    rcases h with h | h
    · have := h4 i h; omega
    · exact h.2
  · refine ⟨hK5.os.trans hK.os, hK5.tape.trans hK.tape, hK5.output.trans hK.output, by rw [hs5]; omega, fun i hi hn => ?_⟩
    refine (hK5.block i (by omega) (fun h => ?_)).trans (hK.block i hi (fun h => hn (by rw [h]; exact h1)))
    rcases h with h | h
    · exact hn (h2 i h)
    · exact hn (by rw [h]; exact h1)
  · rcases h with h | h
    · exact .inl h
    · exact .inr h.1
theorem rx_post {F : Nat → Prop} {g : Nat} {s V : ByteArray} {E : Int} {l' : List (Int × Int)} {sp sp' : List (Nat × Nat)} {w w' : World} {r : ByteArray × Int × List (Int × Int)} (hr : r = (V, E, l')) (h : ∃ F', Srx F' w' g s l' sp' ∧ Keeps F w w' ∧ ∀ i, F' i → F i ∨ w.heap.size ≤ i) (hs : sp' = sp) : RxPost F g s r sp w (.returned (.tuple #[.string V, .int .i64 E])) w' := by
  subst hr hs
  exact ⟨rfl, h⟩
end Go.Proofs.Yteclomkhienhiaa

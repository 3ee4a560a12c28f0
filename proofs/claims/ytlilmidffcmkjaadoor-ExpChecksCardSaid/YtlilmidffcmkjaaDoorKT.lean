/- 'All but blocks of these kinds, from here on, is as it was'. No program in it. -/
import Derived.Test.YtlilmidffcmkjaaDoorOwnB
import Derived.Test.YtlilmidffcmkjaaDoorKeep
namespace Go.Proofs.YtlilmidffcmkjaaDoor
open Go.RowKit
set_option linter.unusedVariables false
/-- A block of one of these kinds. -/
def Hot (T : List TypeId) (w : World) (i : Nat) : Prop := ∃ cs t, w.heap[i]? = some (.cells cs t (0, 0)) ∧ t ∈ T
structure KT (T : List TypeId) (B : Nat) (w w' : World) : Prop where
  os : w'.os = w.os
  tape : w'.tape = w.tape
  output : w'.output = w.output
  size : w.heap.size ≤ w'.heap.size
  block : ∀ i, i < w.heap.size → (i < B ∨ ¬ Hot T w i) → w'.heap[i]? = w.heap[i]?
section
variable {T : List TypeId} {B : Nat} {a b c w w' : World}
theorem KT.refl (w : World) : KT T B w w := ⟨rfl, rfl, rfl, Nat.le_refl _, fun _ _ _ => rfl⟩
theorem KT.trans (h : KT T B a b) (k : KT T B b c) : KT T B a c :=
  ⟨k.os.trans h.os, k.tape.trans h.tape, k.output.trans h.output, Nat.le_trans h.size k.size, fun i hi hn => by
    have e := h.block i hi hn
    refine (k.block i (Nat.lt_of_lt_of_le hi h.size) ?_).trans e
    rcases hn with hn | hn
    · exact .inl hn
    · refine .inr fun ⟨cs, t, h1, h2⟩ => hn ⟨cs, t, e ▸ h1, h2⟩⟩
theorem KT.of_bw (h : Bw w w') : KT T B w w' := ⟨h.os, h.tape, h.output, Below.size h, fun i hi _ => Below.block h i hi⟩
theorem KT.of_below {D : Nat} (h : Below D w w') (hs : w.heap.size ≤ D) : KT T B w w' := ⟨h.os, h.tape, h.output, Below.size h, fun i hi _ => Below.block h i (by omega)⟩
theorem KT.of_keeps {F : Nat → Prop} (h : Keeps F w w') (hF : ∀ i, i < w.heap.size → F i → B ≤ i ∧ Hot T w i) : KT T B w w' :=
  ⟨h.os, h.tape, h.output, h.size, fun i hi hn => h.block i hi fun hf => by
    obtain ⟨h1, h2⟩ := hF i hi hf
    rcases hn with hn | hn
    · omega
    · exact hn h2⟩
theorem KT.below (h : KT T B w w') {D : Nat} (hD : D ≤ B) (hB : B ≤ w.heap.size) : Below D w w' := ⟨h.os, h.tape, h.output, h.size, fun i hi => h.block i (by omega) (.inl (by omega))⟩
theorem KT.base {B' : Nat} (h : KT T B w w') (hB : B' ≤ B) : KT T B' w w' := ⟨h.os, h.tape, h.output, h.size, fun i hi hn => h.block i hi (hn.imp_left fun h => by omega)⟩
theorem Has.hot {g : Nat} {t : TypeId} {cs : Array Value} (h : Has w g t cs) (ht : t ∈ T) : Hot T w g := ⟨cs, t, h, ht⟩
theorem Has.nothot {g : Nat} {t : TypeId} {cs : Array Value} (h : Has w g t cs) (ht : t ∉ T) : ¬ Hot T w g := fun ⟨cs', t', h1, h2⟩ => by
  unfold Has at h
  rw [h] at h1
  injection h1 with h1
  injection h1 with _ h1
  subst h1
  exact ht h2
theorem KT.has (h : KT T B w w') {g : Nat} {t : TypeId} {cs : Array Value} (k : Has w g t cs) (ht : t ∉ T) : Has w' g t cs := (h.block g k.lt (.inr (k.nothot ht))).trans k
theorem KT.own (h : KT T B w w') {D t size n : Nat} {v : Value} {xs : List Value} (k : w.ownsRow D t size v n xs) (ht : t ∉ T) : w'.ownsRow D t size v n xs :=
  own_keep k fun b hb => by
    obtain ⟨cur, hc⟩ := own_at k hb
    exact h.block b (own_lt k hb) (.inr (Has.nothot (show Has w b t cur from hc) ht))
theorem KT.of_grown {D t size n : Nat} {v : Value} {xs : List Value} {w1 w2 : World} (h : w1.ownsRow D t size v n xs) (hD : B ≤ D) (hg : w1.grownBy w2 v.ownBlock) (ht : t ∈ T) : KT T B w1 w2 :=
  ⟨hg.os, hg.tape, hg.output, hg.size, fun i hi hn => hg.block i hi fun hx => by
    obtain ⟨cur, hc⟩ := own_at h hx.symm
    have hge := own_ge h hx.symm
    rcases hn with hn | hn
    · omega
    · exact hn ⟨cur, t, hc, ht⟩⟩
theorem KT.setCell (h : KT T B a w) {p : Addr} (hp : B ≤ p.block) (hh : Hot T w p.block) (u : Value) : KT T B a (w.setCell p u) :=
  h.trans (KT.of_keeps (Keeps.of_setCell (F := (· = p.block)) rfl u) fun i _ e => by subst e; exact ⟨hp, hh⟩)
theorem KT.alloc (h : KT T B a w) (o : Obj) : KT T B a (w.alloc o) := h.trans (.of_bw (Bw.alloc (Bw.refl _) o))
theorem KT.drewN (h : KT T B a w) (n : Nat) : KT T B a (w.drewN n) := h.trans (.of_bw (Bw.drewN (Bw.refl _) n))
end
end Go.Proofs.YtlilmidffcmkjaaDoor

/- What the loop that writes symbols by their codes leaves: a writer and a row of the kept ones, side by side. -/
import Derived.Test.YtlgobejphdnobaaHufR
import Derived.Test.YtlgobejphdnobaaHufG
namespace Go.Proofs.Ytlgobejphdnobaa
open Go.RowKit
set_option linter.unusedVariables false
def intCells (ks : List Nat) : List Value := ks.map fun x => .int .i64 (x : Nat)
structure BackAt (g : Nat) (w2 wr : World) (kv : Value) (n : Nat) (ks : List Nat) (F : Nat → Prop) (k N : Nat) : Prop where
  few : ks.length ≤ n
  row : wr.ownsRow g 3 1 kv ks.length (intCells ks)
  wrt : WrF F wr g k N
  far : ∀ b, F b → g ≤ b
  apart : ∀ b, kv.ownBlock = some b → ¬ F b
  bw : Bw w2 wr
  size : w2.heap.size = g
theorem BackAt.skip {g : Nat} {w2 wr : World} {kv : Value} {n : Nat} {ks : List Nat} {F : Nat → Prop} {k N : Nat} (h : BackAt g w2 wr kv n ks F k N) : BackAt g w2 wr kv (n + 1) ks F k N :=
  ⟨Nat.le_succ_of_le h.few, h.row, h.wrt, h.far, h.apart, h.bw, h.size⟩
theorem BackAt.start {w2 : World} {W : World} (h : w2.alloc (.cells #[.int .i64 0, .slice none 0 0, .int .u8 0] 50) = W) : BackAt w2.heap.size w2 W (.slice none 0 0) 0 [] (· = w2.heap.size) 0 0 := by
  subst h
  exact ⟨Nat.le_refl _, World.ownsRow_nil _ _ _ _, WrF.fresh (Has.new w2 _ _), fun b h => Nat.le_of_eq h.symm, fun b hb => by simp [Value.ownBlock] at hb, (Bw.refl _).alloc _, rfl⟩
theorem WPost.step {F F1 : Nat → Prop} {g k' N' : Nat} {w w1 w2 : World} (hk : Keeps F w w1) (hF : ∀ i, F1 i → F i ∨ w.heap.size ≤ i) (h2 : WPost F1 g k' N' w1 w2) : WPost F g k' N' w w2 := by
  obtain ⟨F2, a2, hk2, hF2⟩ := h2
  have hs := hk.size
  refine ⟨F2, a2, ⟨hk2.os.trans hk.os, hk2.tape.trans hk.tape, hk2.output.trans hk.output, Nat.le_trans hs hk2.size, fun i hi hn => (hk2.block i (Nat.lt_of_lt_of_le hi hs) fun hf => ?_).trans (hk.block i hi hn)⟩, fun i hi => (hF2 i hi).elim (hF i) fun h => .inr (Nat.le_trans hs h)⟩
  rcases hF i hf with h | h
  · exact hn h
  · omega
theorem put_more {F : Nat → Prop} {g K N : Nat} {wr wq : World} (hW : WPost F g K N wr wq) (hk : K ≤ 1125899906842592) (v : Nat) (hv : v < 2) :
    Calls Try.prog 23 #[.pointer (some ⟨g, 0, none⟩), .int .u32 v, .int .i64 1] wq fun e w' => e = .returned (.int .i64 0) ∧ WPost F g (K + 1) (N + v * 2 ^ K) wr w' := by
  obtain ⟨F1, a1, hk1, hF⟩ := hW
  exact (put_ok F1 g K N hk v (by omega) 1 (by decide) (by omega) wq a1).mono fun e w' ⟨he, h2⟩ => ⟨he, h2.step hk1 hF⟩
theorem BackAt.put {g : Nat} {w2 wr wq : World} {kv : Value} {n : Nat} {ks : List Nat} {F : Nat → Prop} {k N K M : Nat} (h : BackAt g w2 wr kv n ks F k N) (hp : WPost F g K M wr wq) : ∃ F', BackAt g w2 wq kv n ks F' K M := by
  obtain ⟨F', a, hk, hF⟩ := hp
  have h1 := h.bw.size
  have h2 := h.size
  refine ⟨F', h.few, own_keep h.row fun b hb => hk.block b (own_lt h.row hb) (h.apart b hb), a, fun b hb => ?_, fun b hb hf => ?_, ?_, h.size⟩
  · rcases hF b hb with h3 | h3
    · exact h.far b h3
    · omega
  · rcases hF b hf with h3 | h3
    · exact h.apart b hb h3
    · have := own_lt h.row hb; omega
  · exact Below.trans h.bw (hk.below (by omega) fun i hi => by have := h.far i hi; omega)
theorem BackAt.app {g : Nat} {w2 wq w5 : World} {kv kv' : Value} {n : Nat} {ks : List Nat} {F : Nat → Prop} {k N x : Nat} (h : BackAt g w2 wq kv n ks F k N) (o : Obj) (hg : (wq.alloc o).grownBy w5 kv.ownBlock)
    (hown : w5.ownsRow g 3 1 kv' (ks.length + 1) (intCells ks ++ [.int .i64 (x : Nat)])) (hb : kv'.ownBlock = kv.ownBlock ∨ kv'.ownBlock = some (wq.alloc o).heap.size) : BackAt g w2 w5 kv' (n + 1) (ks ++ [x]) F k N := by
  have h1 := h.bw.size
  have h2 := h.size
  have hlt : ∀ i, F i → i < wq.heap.size := by obtain ⟨_, _, _, _, _, h5⟩ := h.wrt; exact h5
  refine ⟨by have := h.few; simp; omega, by simpa [intCells] using hown, ?_, h.far, fun b hb' hf => ?_, ?_, h.size⟩
  · exact h.wrt.keep (((Keeps.refl (fun i => kv.ownBlock = some i) wq).alloc o).grown hg fun b hb => hb) fun i hi e => h.apart i e hi
  · rcases hb with e | e
    · exact h.apart b (e.symm.trans hb') hf
    · rw [e] at hb'
      injection hb' with hb'
      have := hlt b hf
      simp at hb'
      omega
  · exact Bw.at_end (Below.trans (h.bw.alloc o) (own_grown (by simp; omega) (fun b hb => by have := own_ge h.row hb; omega) hg))
/-- The state while the kept ones are read back. -/
structure ReadAt (g : Nat) (w2 wq : World) (kv : Value) (ks : List Nat) (F : Nat → Prop) (k N : Nat) (gr : Nat) (s : ByteArray) (p : Nat) : Prop where
  back : BackAt g w2 wq kv ks.length ks F k N
  rd : Rd wq gr s p
  ne : ¬ F gr
  nr : kv.ownBlock ≠ some gr
  gg : g ≤ gr
theorem BackAt.bws {g : Nat} {w2 wr wq : World} {kv : Value} {n : Nat} {ks : List Nat} {F : Nat → Prop} {k N : Nat} (h : BackAt g w2 wr kv n ks F k N) (hb : Bw wr wq) : BackAt g w2 wq kv ks.length ks F k N :=
  ⟨Nat.le_refl _, hb.own h.row, h.wrt.keep (G := fun _ => False) (Keeps.of_bw hb) (fun _ _ h => h), h.far, h.apart, h.bw.trans hb, h.size⟩
theorem ReadAt.step {g : Nat} {w2 wq w' : World} {kv : Value} {ks : List Nat} {F : Nat → Prop} {k N gr : Nat} {s : ByteArray} {p p' : Nat} (h : ReadAt g w2 wq kv ks F k N gr s p) (hr : Rd w' gr s p') (hk : Keeps (· = gr) wq w') : ReadAt g w2 w' kv ks F k N gr s p' := by
  have hb := h.back
  have h2 := hb.size
  have hg := h.gg
  refine ⟨⟨hb.few, own_keep hb.row fun b hb' => hk.block b (own_lt hb.row hb') fun e => h.nr (e ▸ hb'), hb.wrt.keep hk fun i hi e => h.ne (e ▸ hi), hb.far, hb.apart, Below.trans hb.bw (hk.below hb.bw.size fun i hi => by omega), hb.size⟩, hr, h.ne, h.nr, hg⟩
end Go.Proofs.Ytlgobejphdnobaa

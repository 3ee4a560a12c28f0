/- What a source is in memory, and what taking the next step of its script leaves (contracts of the functions). -/
import Derived.Test.YteclomkhienhiaaRows
import Derived.Test.YteclomkhienhiaaComm
import Derived.Maps.AppendAt
namespace Go.Proofs.Yteclomkhienhiaa
open Go.RowKit Go.Conc
set_option linter.unusedVariables false

def stepV (x : Int × Int) : Value := .agg #[.int .i64 x.1, .int .i64 x.2]
/-- The channel: these steps are left in it, and it is closed. -/
def Script (w : World) (c : Nat) (steps : List (Int × Int)) : Prop := ∃ cap s r : Nat, w.heap[c]? = some (.chan cap (steps.map stepV).toArray true s r false)
/-- All but the blocks of F is as it was. -/
structure Keeps (F : Nat → Prop) (w w' : World) : Prop where
  os : w'.os = w.os
  tape : w'.tape = w.tape
  output : w'.output = w.output
  size : w.heap.size ≤ w'.heap.size
  block : ∀ i, i < w.heap.size → ¬ F i → w'.heap[i]? = w.heap[i]?
theorem Keeps.of_bw {F : Nat → Prop} {w w' : World} (h : Bw w w') : Keeps F w w' := ⟨h.os, h.tape, h.output, Below.size h, fun i hi _ => Below.block h i hi⟩
theorem Keeps.trans {F : Nat → Prop} {a b c : World} (h : Keeps F a b) (k : Keeps F b c) : Keeps F a c :=
  ⟨k.os.trans h.os, k.tape.trans h.tape, k.output.trans h.output, Nat.le_trans h.size k.size, fun i hi hf => (k.block i (Nat.lt_of_lt_of_le hi h.size) hf).trans (h.block i hi hf)⟩
theorem Keeps.mono {F G : Nat → Prop} {w w' : World} (h : Keeps F w w') (hg : ∀ i, i < w.heap.size → F i → G i) : Keeps G w w' := ⟨h.os, h.tape, h.output, h.size, fun i hi hn => h.block i hi fun hf => hn (hg i hi hf)⟩
theorem Keeps.setChan {F : Nat → Prop} {a w : World} (h : Keeps F a w) {c : Nat} (hc : F c) (cap : Nat) (buf : Array Value) (cl : Bool) (s r : Nat) (tm : Bool) : Keeps F a (w.setChan c cap buf cl s r tm) :=
  ⟨h.os, h.tape, h.output, by rw [size_setChan]; exact h.size, fun i hi hn => by
    simp only [World.setChan]
    rw [Array.getElem?_setIfInBounds_ne (fun e => hn (by rw [← e]; exact hc))]
    exact h.block i hi hn⟩
theorem Keeps.below {F : Nat → Prop} {B : Nat} {w w' : World} (h : Keeps F w w') (hB : B ≤ w.heap.size) (hF : ∀ i, F i → B ≤ i) : Below B w w' :=
  ⟨h.os, h.tape, h.output, h.size, fun i hi => h.block i (by omega) fun hf => by have := hF i hf; omega⟩

theorem Script.lt {w : World} {c : Nat} {l : List (Int × Int)} (h : Script w c l) : c < w.heap.size := by
  obtain ⟨cap, s, r, hb⟩ := h
  rcases Nat.lt_or_ge c w.heap.size with h | h
  · exact h
  · rw [Array.getElem?_eq_none h] at hb; cases hb
theorem Keeps.alloc {F : Nat → Prop} {a w : World} (h : Keeps F a w) (o : Obj) : Keeps F a (w.alloc o) := h.trans (.of_bw (Bw.alloc (Bw.refl _) o))
theorem Keeps.setCell {F : Nat → Prop} {a w : World} (h : Keeps F a w) {p : Addr} (hp : F p.block ∨ a.heap.size ≤ p.block) (u : Value) : Keeps F a (w.setCell p u) :=
  ⟨h.os, h.tape, h.output, by simpa [World.setCell] using h.size, fun i hi hn => (Below.heap_setCell w p u i (by
    rintro rfl
    rcases hp with hp | hp
    · exact hn hp
    · omega)).trans (h.block i hi hn)⟩
theorem Keeps.drewN {F : Nat → Prop} {a w : World} (h : Keeps F a w) (n : Nat) : Keeps F a (w.drewN n) := h.trans (.of_bw (Bw.drewN (Bw.refl _) n))
theorem Keeps.refl (F : Nat → Prop) (w : World) : Keeps F w w := .of_bw (Bw.refl w)
theorem Keeps.has {F : Nat → Prop} {w w' : World} (h : Keeps F w w') {g : Nat} {t : TypeId} {cs : Array Value} (k : Has w g t cs) (hg : ¬ F g) : Has w' g t cs := (h.block g k.lt hg).trans k
theorem Has.setChan {w : World} {g : Nat} {t : TypeId} {cs : Array Value} (h : Has w g t cs) {c : Nat} (hc : c ≠ g) (cap : Nat) (buf : Array Value) (cl : Bool) (s r : Nat) (tm : Bool) : Has (w.setChan c cap buf cl s r tm) g t cs := by
  unfold Has World.setChan at *
  simp only []
  rw [Array.getElem?_setIfInBounds_ne hc]
  exact h
theorem Keeps.script {F : Nat → Prop} {w w' : World} (h : Keeps F w w') {c : Nat} {l : List (Int × Int)} (k : Script w c l) (hg : ¬ F c) : Script w' c l := by
  have hl := k.lt
  obtain ⟨cap, s, r, hb⟩ := k
  exact ⟨cap, s, r, (h.block c hl hg).trans hb⟩

set_option maxRecDepth 100000 in
set_option maxHeartbeats 1000000 in
theorem next_some (g c : Nat) (hgc : g ≠ c) (x0 x1 : Int) (rest : List (Int × Int)) (w : World) (hg : g < w.heap.size) (hc : w.cell? ⟨g, 1, none⟩ = some (.chan (some c))) (hs : Script w c ((x0, x1) :: rest)) :
    Calls Try.prog 43 #[.pointer (some ⟨g, 0, none⟩)] w fun e w' => e = .returned (.agg #[.int .i64 x0, .int .i64 x1]) ∧ Script w' c rest ∧ Keeps (· = c) w w' := by
  have hcl := hs.lt
  obtain ⟨cap, s, r, hb⟩ := hs
  have hc1 : (w.alloc (.cells #[.int .i64 0, .int .i64 0] 33)).cell? ⟨g, 1, none⟩ = some (.chan (some c)) := by rw [World.cell?_alloc_lt _ _ _ hg]; exact hc
  have hb1 : (w.alloc (.cells #[.int .i64 0, .int .i64 0] 33)).heap[c]? = some (.chan cap (stepV (x0, x1) :: rest.map stepV).toArray true s r false) := by
    rw [Below.heap_alloc _ _ _ hcl]; simpa using hb
  clear hc hb
  have HB := hid hb1
  clear hb1
  refine calls_of_wpN Try.func43 rfl ?_
  simp only [Try.ntmps43, List.size_toArray, List.length_cons, List.length_nil, Nat.reduceAdd, Nat.reduceSub, Array.replicate_succ, Array.replicate_zero, List.push_toArray, List.append_toArray, List.nil_append, List.cons_append]
  refine WpN.seq (WpN.of_wp ?_)
  go_wp2
  try simp only [Exit.then]
  refine WpN.seq (WpN.seq (WpN.of_wp ?_))
  go_wp2
  try simp only [Exit.then]
  refine WpN.seq (WpN.region ?_)
  simp only [List.size_toArray, List.length_cons, List.length_nil, Nat.reduceAdd, Nat.zero_add, List.range, List.range.loop]
  refine OpsN.recv (bl := false) (z := stepV (0, 0)) rfl rfl (by simp [go_sem, execOp, rcase, Act.eval, stepV]) HB.out ?_
  refine OpsN.value rfl rfl (by simp [go_sem, execOp, Act.eval, Act.put]; exact ⟨rfl, rfl⟩) ?_
  refine OpsN.value rfl rfl (by simp [go_sem, execOp, Act.eval, Act.put]; exact ⟨rfl, rfl⟩) ?_
  refine OpsN.nil ?_
  try simp only [Exit.then]
  have hR : Has ((w.alloc (.cells #[.int .i64 0, .int .i64 0] 33)).setChan c cap (List.map stepV rest).toArray true s (r + 1) false) w.heap.size 33 #[.int .i64 0, .int .i64 0] :=
    (Has.new w _ _).setChan (by omega) _ _ _ _ _ _
  have hK : Keeps (· = c) w ((w.alloc (.cells #[.int .i64 0, .int .i64 0] 33)).setChan c cap (List.map stepV rest).toArray true s (r + 1) false) := Keeps.setChan (F := (· = c)) ((Keeps.refl _ w).alloc _) rfl _ _ _ _ _ _
  have hS : Script ((w.alloc (.cells #[.int .i64 0, .int .i64 0] 33)).setChan c cap (List.map stepV rest).toArray true s (r + 1) false) c rest := ⟨cap, s, r + 1, heap_setChan _ _ _ _ _ _ _ _ (by simp; omega)⟩
  generalize (w.alloc (.cells #[.int .i64 0, .int .i64 0] 33)).setChan c cap (List.map stepV rest).toArray true s (r + 1) false = W at *
  clear HB hc1
  have hRa := hR.alloc (.cells #[.int .i64 x0, .int .i64 x1] 33)
  have c0 : (W.alloc (.cells #[.int .i64 x0, .int .i64 x1] 33)).cell? ⟨w.heap.size, 0, none⟩ = some (.int .i64 0) := hRa.cell 0
  have c1 : (W.alloc (.cells #[.int .i64 x0, .int .i64 x1] 33)).cell? ⟨w.heap.size, 1, none⟩ = some (.int .i64 0) := hRa.cell 1
  have f0 := hRa.frozen 0
  have f1 := hRa.frozen 1
  refine WpN.of_wp ?_
  simp only [Act.put, stepV]
  go_wp2
  have z0 : (((W.alloc (.cells #[.int .i64 x0, .int .i64 x1] 33)).setCell ⟨w.heap.size, 0, none⟩ (.int .i64 x0)).setCell ⟨w.heap.size, 1, none⟩ (.int .i64 x1)).cell? ⟨w.heap.size, 0, none⟩ = some (.int .i64 x0) := ((hRa.put 0 _).put 1 _).cell 0
  have z1 : (((W.alloc (.cells #[.int .i64 x0, .int .i64 x1] 33)).setCell ⟨w.heap.size, 0, none⟩ (.int .i64 x0)).setCell ⟨w.heap.size, 1, none⟩ (.int .i64 x1)).cell? ⟨w.heap.size, 1, none⟩ = some (.int .i64 x1) := ((hRa.put 0 _).put 1 _).cell 1
  refine bodyPost_ret (v := .agg #[.int .i64 x0, .int .i64 x1]) (by simp [results, Try.results43, go_sem, z0, z1]) rfl ?_
  have K2 := (((Keeps.refl (· = w.heap.size) W).alloc (.cells #[.int .i64 x0, .int .i64 x1] 33)).setCell (p := ⟨w.heap.size, 0, none⟩) (.inl rfl) (.int .i64 x0)).setCell (p := ⟨w.heap.size, 1, none⟩) (.inl rfl) (.int .i64 x1)
  exact ⟨rfl, K2.script hS (by show ¬ c = w.heap.size; omega), ((hK.alloc _).setCell (.inr (Nat.le_refl _)) _).setCell (.inr (Nat.le_refl _)) _⟩

set_option maxRecDepth 100000 in
set_option maxHeartbeats 1000000 in
theorem next_none (g c : Nat) (w : World) (hg : g < w.heap.size) (hc : w.cell? ⟨g, 1, none⟩ = some (.chan (some c))) (hs : Script w c []) :
    Calls Try.prog 43 #[.pointer (some ⟨g, 0, none⟩)] w fun e w' => e = .returned (.agg #[.int .i64 0, .int .i64 0]) ∧ Script w' c [] ∧ Keeps (· = c) w w' := by
  have hcl := hs.lt
  obtain ⟨cap, s, r, hb⟩ := hs
  have hc1 : (w.alloc (.cells #[.int .i64 0, .int .i64 0] 33)).cell? ⟨g, 1, none⟩ = some (.chan (some c)) := by rw [World.cell?_alloc_lt _ _ _ hg]; exact hc
  have hb1 : (w.alloc (.cells #[.int .i64 0, .int .i64 0] 33)).heap[c]? = some (.chan cap #[] true s r false) := by
    rw [Below.heap_alloc _ _ _ hcl]; simpa using hb
  clear hc hb
  have HB := hid hb1
  clear hb1
  refine calls_of_wpN Try.func43 rfl ?_
  simp only [Try.ntmps43, List.size_toArray, List.length_cons, List.length_nil, Nat.reduceAdd, Nat.reduceSub, Array.replicate_succ, Array.replicate_zero, List.push_toArray, List.append_toArray, List.nil_append, List.cons_append]
  refine WpN.seq (WpN.of_wp ?_)
  go_wp2
  try simp only [Exit.then]
  refine WpN.seq (WpN.seq (WpN.of_wp ?_))
  go_wp2
  try simp only [Exit.then]
  refine WpN.seq (WpN.region ?_)
  simp only [List.size_toArray, List.length_cons, List.length_nil, Nat.reduceAdd, Nat.zero_add, List.range, List.range.loop]
  refine OpsN.shut (bl := false) (z := stepV (0, 0)) rfl rfl (by simp [go_sem, execOp, rcase, Act.eval, stepV]) HB.out ?_
  refine OpsN.value rfl rfl (by simp [go_sem, execOp, Act.eval, Act.put]; exact ⟨rfl, rfl⟩) ?_
  refine OpsN.value rfl rfl (by simp [go_sem, execOp, Act.eval, Act.put]; exact ⟨rfl, rfl⟩) ?_
  refine OpsN.nil ?_
  try simp only [Exit.then]
  have hK : Bw w (w.alloc (.cells #[.int .i64 0, .int .i64 0] 33)) := (Bw.refl w).alloc _
  clear hc1
  refine WpN.of_wp ?_
  simp only [Act.put, stepV]
  go_wp2
  try simp only [Exit.then]
  refine WpN.of_wp ?_
  go_wp2
  go_returns
  exact ⟨rfl, ⟨cap, s, r, by rw [Below.heap_alloc _ _ _ (by simp; omega)]; simpa using HB.out⟩, .of_bw (hK.alloc _)⟩

end Go.Proofs.Yteclomkhienhiaa

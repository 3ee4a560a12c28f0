import Derived.WalkKit
import Derived.WalkSpells
import Derived.WalkLawsBesides
import Derived.Handy
import Derived.Conc.LoneCalls
import Derived.Conc.LoneSelectN
import Derived.Test.YtkmbgkcpohchhaaGreatDoorRows
import Derived.Maps.AppendAt
import Derived.OwnWalk
import Derived.Deep.QuietTactic
import Derived.BigQuiet
import Derived.Laws.IdiomCopy
namespace Go.Proofs.YtkmbgkcpohchhaaGreatDoor
open Go.RowKit
theorem hid {p : Prop} (h : p) : Hid p := h
theorem ret_bool {a b : Bool} (h : a = b) : Ending.returned (.bool a) = .returned (.bool b) := by rw [h]
def Has (w : World) (g : Nat) (t : TypeId) (cs : Array Value) : Prop := w.heap[g]? = some (.cells cs t (0, 0))
section
variable {w w' : World} {g : Nat} {t : TypeId} {cs : Array Value}
theorem Has.lt (h : Has w g t cs) : g < w.heap.size := by
  rcases Nat.lt_or_ge g w.heap.size with hl | hg
  · exact hl
  · unfold Has at h; rw [Array.getElem?_eq_none hg] at h; cases h
theorem Has.cell (h : Has w g t cs) (i : Nat) : w.cell? ⟨g, i, none⟩ = cs[i]? := cell_of_row w g i cs t (0, 0) h
theorem Has.frozen (h : Has w g t cs) (i : Nat) : w.frozen? ⟨g, i, none⟩ = false := by
  unfold Has at h
  simp [World.frozen?, h]
theorem Has.new (w : World) (t : TypeId) (cs : Array Value) : Has (w.alloc (.cells cs t)) w.heap.size t cs := heap_alloc_new w _
theorem Has.alloc (h : Has w g t cs) (o : Obj) : Has (w.alloc o) g t cs := (Below.heap_alloc w o g h.lt).trans h
theorem Has.drew (h : Has w g t cs) : Has w.drew g t cs := h
theorem Has.drewN (h : Has w g t cs) (n : Nat) : Has (w.drewN n) g t cs := h
theorem Has.put (h : Has w g t cs) (i : Nat) (u : Value) : Has (w.setCell ⟨g, i, none⟩ u) g t (cs.setIfInBounds i u) := by
  unfold Has at h ⊢
  simp [World.setCell, Array.getElem?_modify, h]
theorem Has.far (h : Has w g t cs) {p : Addr} (hp : g ≠ p.block) (u : Value) : Has (w.setCell p u) g t cs := (Below.heap_setCell w p u g hp).trans h
theorem Has.below {B : Nat} (h : Has w g t cs) (hb : Below B w w') (hg : g < B) : Has w' g t cs := (hb.block g hg).trans h
end
def Bw (w w' : World) : Prop := Below w.heap.size w w'
theorem Bw.refl (w : World) : Bw w w := Below.refl _ _
theorem Bw.trans {a b c : World} (h : Bw a b) (k : Bw b c) : Bw a c := Below.trans h (Below.mono k h.size)
theorem Bw.at_end {w w' : World} (h : Below w.heap.size w w') : Bw w w' := h
theorem Bw.size {w w' : World} (h : Bw w w') : w.heap.size ≤ w'.heap.size := Below.size h
theorem Bw.has {w w' : World} (h : Bw w w') {g : Nat} {t : TypeId} {cs : Array Value} (k : Has w g t cs) : Has w' g t cs := k.below h k.lt
theorem Bw.alloc {w w' : World} (h : Bw w w') (o : Obj) : Bw w (w'.alloc o) := Below.alloc h h.size o
theorem Bw.drewN {w w' : World} (h : Bw w w') (n : Nat) : Bw w (w'.drewN n) := below_drewN h n
theorem ret_str {s t : ByteArray} {e f : Int} (k : s = t) (l : e = f) : Ending.returned (.tuple #[.string s, .int .i64 e]) = .returned (.tuple #[.string t, .int .i64 f]) := by rw [k, l]
end Go.Proofs.YtkmbgkcpohchhaaGreatDoor
namespace Go.Proofs.YtkmbgkcpohchhaaGreatDoor
open Go.RowKit
set_option linter.unusedVariables false
def lenB (n : Int) : Bool := decide (0 ≤ n ∧ n ≤ 15)
def okLens (l : List Int) : Bool := decide (l.length ≤ 320) && l.all lenB
def tal (l : List Int) (n : Nat) : Nat := if n = 0 then 0 else l.count (n : Int)
theorem tal_nil (n : Nat) : tal [] n = 0 := by unfold tal; split <;> simp
theorem tal_snoc (l : List Int) (x n : Nat) : tal (l ++ [(x : Int)]) n = if x = n ∧ 0 < n then tal l n + 1 else tal l n := by
  unfold tal
  by_cases h0 : n = 0
  · subst h0; rw [if_pos rfl, if_neg (by omega), if_pos rfl]
  · rw [if_neg h0, if_neg h0, List.count_append]
    by_cases h : x = n
    · subst h; rw [if_pos ⟨rfl, by omega⟩]; simp
    · rw [if_neg (fun e => h e.1)]
      have : ¬ ((x : Int) = (n : Int)) := by omega
      simp [this]
theorem tal_le (l : List Int) (n : Nat) : tal l n ≤ l.length := by
  unfold tal
  split
  · omega
  · exact List.count_le_length
def talArr (l : List Int) : Array Value := ((List.range 16).map fun n => Value.int .i64 (tal l n : Nat)).toArray
theorem talArr_get (l : List Int) (n : Nat) (h : n < 16) : (talArr l)[n]? = some (.int .i64 (tal l n : Nat)) := by
  unfold talArr
  simp [List.getElem?_range h]
theorem talArr_nil : talArr [] = #[.int .i64 0, .int .i64 0, .int .i64 0, .int .i64 0, .int .i64 0, .int .i64 0, .int .i64 0, .int .i64 0, .int .i64 0, .int .i64 0, .int .i64 0, .int .i64 0, .int .i64 0, .int .i64 0, .int .i64 0, .int .i64 0] := by
  simp [talArr, tal_nil, List.range, List.range.loop]
theorem talArr_put (l : List Int) (x : Nat) (h0 : 0 < x) (h : x < 16) : (talArr l).setIfInBounds x (.int .i64 (tal l x + 1 : Nat)) = talArr (l ++ [(x : Int)]) := by
  apply Array.ext_getElem?
  intro i
  have hsz : (talArr l).size = 16 := by simp [talArr]
  rw [Array.getElem?_setIfInBounds, hsz]
  by_cases hi : i < 16
  · rw [talArr_get (l ++ [(x : Int)]) i hi, tal_snoc]
    by_cases e : x = i
    · subst e; rw [if_pos rfl, if_pos h, if_pos ⟨rfl, h0⟩]
    · rw [if_neg e, talArr_get l i hi, if_neg (fun a => e a.1)]
  · rw [if_neg (by omega), Array.getElem?_eq_none (by rw [hsz]; omega), Array.getElem?_eq_none (by simp [talArr]; omega)]
theorem talArr_zero (l : List Int) : talArr (l ++ [0]) = talArr l := by
  unfold talArr
  congr 2
  funext n
  have := tal_snoc l 0 n
  rw [if_neg (by omega)] at this
  exact congrArg (fun m : Nat => Value.int .i64 (m : Int)) this
end Go.Proofs.YtkmbgkcpohchhaaGreatDoor
namespace Go.Proofs.YtkmbgkcpohchhaaGreatDoor
open Go.RowKit Go.Conc
def WpN (P : Program) (c : Code) (Q : Exit → Act → World → Prop) (a : Act) (w : World) : Prop :=
  ∀ (b : Frame) (k : List Item) (cs : List Frame), b.kind ≠ .early →
    ∃ e a' w', Q e a' w' ∧ Arrives P (lone (b.at a (.code c :: k)) cs w) b k cs e a' w'
def OpsN (P : Program) (ops : Array Oper) (Q : Exit → Act → World → Prop) (l : List Nat) (a : Act) (w : World) : Prop :=
  ∀ (b : Frame) (k : List Item) (cs : List Frame), b.kind ≠ .early →
    ∃ e a' w', Q e a' w' ∧ Arrives P (lone (b.at a (.inRegion ops l :: k)) cs w) b k cs e a' w'
section
variable {P : Program} {Q : Exit → Act → World → Prop} {a : Act} {w : World}
theorem WpN.seq {x y : Code} (h : WpN P x (Exit.then (WpN P y Q) Q) a w) : WpN P (.seq x y) Q a w := by
  intro b k cs hb
  obtain ⟨e, a₁, w₁, hq, harr⟩ := h b (.code y :: k) cs hb
  cases e with
  | normal =>
    obtain ⟨e₂, a₂, w₂, hq₂, harr₂⟩ := hq b k cs hb
    exact ⟨e₂, a₂, w₂, hq₂, .of_steps (.head step_seq harr) harr₂⟩
  | exit id => exact ⟨_, a₁, w₁, hq, .of_steps (.one step_seq) (.pass (x := .code y) rfl (fun _ _ => .inl (by simp)) harr)⟩
  | goto l => exact ⟨_, a₁, w₁, hq, .of_steps (.one step_seq) (.pass (x := .code y) rfl (fun _ _ => .inl (by simp)) harr)⟩
  | ret => exact ⟨_, a₁, w₁, hq, .of_steps (.one step_seq) (.pass (x := .code y) rfl (fun _ _ => .inl (by simp)) harr)⟩
  | panic ch => exact ⟨_, a₁, w₁, hq, .of_steps (.one step_seq) (.pass (x := .code y) rfl (fun _ _ => .inl (by simp)) harr)⟩
  | outgrown => exact ⟨_, a₁, w₁, hq, .of_steps (.one step_seq) (.pass (x := .code y) rfl (fun _ _ => .inl (by simp)) harr)⟩
theorem WpN.mono {c : Code} {Q' : Exit → Act → World → Prop} (h : WpN P c Q a w) (hq : ∀ e a w, Q e a w → Q' e a w) : WpN P c Q' a w :=
  fun b k cs hb => let ⟨e, a', w', q, r⟩ := h b k cs hb; ⟨e, a', w', hq _ _ _ q, r⟩
theorem WpN.loop {c : Code} (I : Act → World → Prop) (μ : Act → World → Nat) (h₀ : I a w)
    (round : ∀ a w, I a w → WpN P c (Exit.then (fun a' w' => I a' w' ∧ μ a' w' < μ a w) Q) a w) : WpN P (.loop c) Q a w := by
  intro b k cs hb
  have key : ∀ n a w, μ a w = n → I a w → ∃ e a' w', Q e a' w' ∧ Arrives P (lone (b.at a (.code c :: .inLoop c :: k)) cs w) b k cs e a' w' := by
    intro n
    induction n using Nat.strongRecOn with
    | _ n ih =>
      intro a w hn hI
      obtain ⟨e, a₁, w₁, hq, harr⟩ := round a w hI b (.inLoop c :: k) cs hb
      cases e with
      | normal =>
        obtain ⟨hI₁, hlt⟩ := hq
        obtain ⟨e₂, a₂, w₂, hq₂, harr₂⟩ := ih (μ a₁ w₁) (hn ▸ hlt) a₁ w₁ rfl hI₁
        exact ⟨e₂, a₂, w₂, hq₂, .of_steps (Steps.trans harr (.one step_inLoop)) harr₂⟩
      | exit id => exact ⟨_, a₁, w₁, hq, .pass (x := .inLoop c) rfl (fun _ _ => .inl (by simp)) harr⟩
      | goto l => exact ⟨_, a₁, w₁, hq, .pass (x := .inLoop c) rfl (fun _ _ => .inl (by simp)) harr⟩
      | ret => exact ⟨_, a₁, w₁, hq, .pass (x := .inLoop c) rfl (fun _ _ => .inl (by simp)) harr⟩
      | panic ch => exact ⟨_, a₁, w₁, hq, .pass (x := .inLoop c) rfl (fun _ _ => .inl (by simp)) harr⟩
      | outgrown => exact ⟨_, a₁, w₁, hq, .pass (x := .inLoop c) rfl (fun _ _ => .inl (by simp)) harr⟩
  obtain ⟨e, a', w', hq, harr⟩ := key _ a w rfl h₀
  exact ⟨e, a', w', hq, .of_steps (.one step_loop) harr⟩
theorem WpN.block {id : Nat} {c : Code} (h : WpN P c (Exit.inBlock id Q) a w) : WpN P (.block id c) Q a w := by
  intro b k cs hb
  obtain ⟨e, a₁, w₁, hq, harr⟩ := h b (.inBlock id :: k) cs hb
  cases e with
  | normal => exact ⟨.normal, a₁, w₁, hq, .head step_block (Steps.trans harr (.one step_inBlock))⟩
  | exit id' =>
    by_cases hid : id' = id
    · simp only [Exit.inBlock, hid, if_true] at hq
      exact ⟨.normal, a₁, w₁, hq, .head step_block (harr k (by simp [exitTo, hid]))⟩
    · simp only [Exit.inBlock, hid, if_false] at hq
      refine ⟨.exit id', a₁, w₁, hq, fun k' hk => .head step_block (harr k' ?_)⟩
      have : (id == id') = false := by simp; exact fun h => hid h.symm
      simp [exitTo, this, hk]
  | goto l => exact ⟨_, a₁, w₁, hq, fun k' hk => .head step_block (harr k' (by simp [gotoIn, hk]))⟩
  | ret => exact ⟨_, a₁, w₁, hq, .of_steps (.one step_block) harr⟩
  | panic ch => exact ⟨_, a₁, w₁, hq, .of_steps (.one step_block) harr⟩
  | outgrown => exact ⟨_, a₁, w₁, hq, .of_steps (b := b) (k := k) (cs := cs) (e := .outgrown) (.one step_block) harr⟩
theorem WpN.region {id : Nat} {ops : Array Oper} (h : OpsN P ops Q (List.range ops.size) a w) : WpN P (.region id ops false) Q a w := by
  intro b k cs hb
  obtain ⟨e, a', w', hq, harr⟩ := h b k cs hb
  exact ⟨e, a', w', hq, .of_steps (.one step_region) harr⟩
theorem OpsN.nil {ops : Array Oper} (h : Q .normal a w) : OpsN P ops Q [] a w := fun _ _ _ _ => ⟨.normal, a, w, h, .one step_region_end⟩
end
end Go.Proofs.YtkmbgkcpohchhaaGreatDoor
namespace Go.Proofs.YtkmbgkcpohchhaaGreatDoor
open Go.RowKit
set_option linter.unusedVariables false
structure Keeps (F : Nat → Prop) (w w' : World) : Prop where
  os : w'.os = w.os
  tape : w'.tape = w.tape
  output : w'.output = w.output
  size : w.heap.size ≤ w'.heap.size
  block : ∀ i, i < w.heap.size → ¬ F i → w'.heap[i]? = w.heap[i]?
theorem Keeps.of_bw {F : Nat → Prop} {w w' : World} (h : Bw w w') : Keeps F w w' := ⟨h.os, h.tape, h.output, Below.size h, fun i hi _ => Below.block h i hi⟩
theorem Keeps.trans {F : Nat → Prop} {a b c : World} (h : Keeps F a b) (k : Keeps F b c) : Keeps F a c :=
  ⟨k.os.trans h.os, k.tape.trans h.tape, k.output.trans h.output, Nat.le_trans h.size k.size, fun i hi hf => (k.block i (Nat.lt_of_lt_of_le hi h.size) hf).trans (h.block i hi hf)⟩
theorem Keeps.mono {F G : Nat → Prop} {w w' : World} (h : Keeps F w w') (hg : ∀ i, i < w.heap.size → F i → G i) : Keeps G w w' := ⟨h.os, h.tape, h.output, h.size, fun i hi hn => h.block i hi fun hf => hn (hg i hi hf)⟩
theorem Keeps.below {F : Nat → Prop} {B : Nat} {w w' : World} (h : Keeps F w w') (hB : B ≤ w.heap.size) (hF : ∀ i, F i → B ≤ i) : Below B w w' :=
  ⟨h.os, h.tape, h.output, h.size, fun i hi => h.block i (by omega) fun hf => by have := hF i hf; omega⟩

theorem Keeps.alloc {F : Nat → Prop} {a w : World} (h : Keeps F a w) (o : Obj) : Keeps F a (w.alloc o) := h.trans (.of_bw (Bw.alloc (Bw.refl _) o))
theorem Keeps.setCell {F : Nat → Prop} {a w : World} (h : Keeps F a w) {p : Addr} (hp : F p.block ∨ a.heap.size ≤ p.block) (u : Value) : Keeps F a (w.setCell p u) :=
  ⟨h.os, h.tape, h.output, by simpa [World.setCell] using h.size, fun i hi hn => (Below.heap_setCell w p u i (by
    rintro rfl
    rcases hp with hp | hp
    · exact hn hp
    · omega)).trans (h.block i hi hn)⟩
theorem Keeps.drewN {F : Nat → Prop} {a w : World} (h : Keeps F a w) (n : Nat) : Keeps F a (w.drewN n) := h.trans (.of_bw (Bw.drewN (Bw.refl _) n))
theorem Keeps.refl (F : Nat → Prop) (w : World) : Keeps F w w := .of_bw (Bw.refl w)
theorem Keeps.has {F : Nat → Prop} {w w' : World} (h : Keeps F w w') {g : Nat} {t : TypeId} {cs : Array Value} (k : Has w g t cs) (hg : ¬ F g) : Has w' g t cs := (h.block g k.lt hg).trans k
theorem Keeps.of_setCell {F : Nat → Prop} {w : World} {p : Addr} (hp : F p.block) (u : Value) : Keeps F w (w.setCell p u) := (Keeps.refl F w).setCell (.inl hp) u
theorem quiet_flip {P : Program} {f : FuncId} {xs : Array Value} {w : World} {v : Value} (h : Calls P f xs w fun e w' => e = .returned v ∧ w = w') : Calls P f xs w fun e w' => e = .returned v ∧ w' = w := h.mono fun e w' ⟨a, b⟩ => ⟨a, b.symm⟩
end Go.Proofs.YtkmbgkcpohchhaaGreatDoor
namespace Go.Proofs.YtkmbgkcpohchhaaGreatDoor
open Go.RowKit Go.Conc
set_option linter.unusedVariables false
section
variable {w w' : World} {B : Nat} {e : TypeId} {size n : Nat} {v : Value} {xs : List Value}
theorem own_slice (h : w.ownsRow B e size v n xs) : ∃ a cap, v = .slice a n cap := by
  rcases h.2 with ⟨rfl, h0⟩ | ⟨g', cap, cur, rfl, _⟩
  · obtain rfl : n = 0 := h0
    exact ⟨none, 0, rfl⟩
  · exact ⟨_, cap, rfl⟩
theorem own_some (h : w.ownsRow B e size v n xs) (hn : 0 < n) : ∃ b cap, v = .slice (some ⟨b, 0, none⟩) n cap := by
  rcases h.2 with ⟨_, h0⟩ | ⟨g', cap, cur, rfl, _⟩
  · omega
  · exact ⟨g', cap, rfl⟩
theorem own_at (h : w.ownsRow B e size v n xs) {b : Nat} (hb : v.ownBlock = some b) : ∃ cur, w.heap[b]? = some (.cells cur e (0, 0)) := by
  rcases h.2 with ⟨rfl, _⟩ | ⟨g', cap, cur, rfl, _, hh, _⟩
  · simp [Value.ownBlock] at hb
  · have : g' = b := by simpa [Value.ownBlock] using hb
    subst this
    exact ⟨cur, hh⟩
theorem own_lt (h : w.ownsRow B e size v n xs) {b : Nat} (hb : v.ownBlock = some b) : b < w.heap.size := by
  obtain ⟨cur, hh⟩ := own_at h hb
  exact (Array.getElem?_eq_some_iff.1 hh).1
theorem own_ge (h : w.ownsRow B e size v n xs) {b : Nat} (hb : v.ownBlock = some b) : B ≤ b := by
  rcases h.2 with ⟨rfl, _⟩ | ⟨g', cap, cur, rfl, hg, hh, _⟩
  · simp [Value.ownBlock] at hb
  · have : g' = b := by simpa [Value.ownBlock] using hb
    omega
theorem own_keep (h : w.ownsRow B e size v n xs) (hk : ∀ b, v.ownBlock = some b → w'.heap[b]? = w.heap[b]?) : w'.ownsRow B e size v n xs := by
  refine ⟨h.1, ?_⟩
  rcases h.2 with ⟨rfl, h0⟩ | ⟨g', cap, cur, rfl, h1, hh, h2⟩
  · exact .inl ⟨rfl, h0⟩
  · exact .inr ⟨g', cap, cur, rfl, h1, (hk g' (by simp [Value.ownBlock])).trans hh, h2⟩
theorem own_ne_has (h : w.ownsRow B e size v n xs) {g : Nat} {t : TypeId} {cs : Array Value} (hg : Has w g t cs) (hne : e ≠ t) : v.ownBlock ≠ some g := fun hb => by
  obtain ⟨cur, hc⟩ := own_at h hb
  unfold Has at hg
  rw [hg] at hc
  injection hc with hc
  injection hc with _ ht
  exact hne ht.symm
theorem Bw.own (h : Bw w w') (k : w.ownsRow B e size v n xs) : w'.ownsRow B e size v n xs := own_keep k fun b hb => h.block b (own_lt k hb)
theorem own_grown {w1 w2 : World} {row : Option Nat} (hB : B ≤ w1.heap.size) (h : ∀ b, row = some b → B ≤ b) (hg : w1.grownBy w2 row) : Below B w1 w2 :=
  ⟨hg.os, hg.tape, hg.output, hg.size, fun i hi => hg.block i (by omega) (fun hx => by have := h i hx.symm; omega)⟩
end
theorem has_grown {w w' : World} {g : Nat} {t : TypeId} {cs : Array Value} (h : Has w g t cs) {row : Option Nat} (hg : w.grownBy w' row) (hr : row ≠ some g) : Has w' g t cs := (hg.block g h.lt (fun e => hr e.symm)).trans h
theorem addr_add (g j : Nat) : (Addr.add ⟨g, 0, none⟩ j) = ⟨g, j, none⟩ := by
  unfold Addr.add
  by_cases hz : j = 0
  · simp [hz]
  · simp; omega
theorem own_two (w : World) (x y : Value) (t : TypeId) : ∀ j u, [x, y][j]? = some u → (w.alloc (.cells #[x, y] t)).cell? ((⟨w.heap.size, 0, none⟩ : Addr).add j) = some u := by
  intro j u hj
  have hn := Has.new w t #[x, y]
  match j, hj with
  | 0, hj =>
    simp at hj; subst hj
    exact hn.cell 0
  | 1, hj =>
    simp at hj; subst hj
    exact hn.cell 1
theorem two_at {W : World} {n : Nat} (h : W.heap.size = n) (x y : Value) (t : TypeId) : ∀ j u, [x, y][j]? = some u → (W.alloc (.cells #[x, y] t)).cell? ((⟨n, 0, none⟩ : Addr).add j) = some u := by
  subst h; exact own_two W x y t
theorem own_grownJ {w w1 w2 : World} {B : Nat} {e : TypeId} {size n : Nat} {v : Value} {xs : List Value} (h : w.ownsRow B e size v n xs) (hg : w1.grownBy w2 v.ownBlock) (hB : B ≤ w1.heap.size) : Below B w1 w2 :=
  ⟨hg.os, hg.tape, hg.output, hg.size, fun i hi => hg.block i (by omega) (fun hx => by
    rcases h.2 with ⟨hv, _⟩ | ⟨g', cp, cur, hv, hg', _⟩
    · subst hv
      cases hx
    · subst hv
      have hx2 : some i = some g' := hx
      injection hx2 with hx3
      omega)⟩
theorem cell_lt {w : World} {b o : Nat} {v : Value} (h : w.cell? ⟨b, o, none⟩ = some v) : b < w.heap.size := by
  rcases Nat.lt_or_ge b w.heap.size with hl | hg
  · exact hl
  · simp [World.cell?, Array.getElem?_eq_none hg] at h
theorem Bw.cell {w w' : World} (h : Bw w w') {b o : Nat} {v : Value} (k : w.cell? ⟨b, o, none⟩ = some v) : w'.cell? ⟨b, o, none⟩ = some v := (World.cell?_of_block (h.block b (cell_lt k))).trans k
end Go.Proofs.YtkmbgkcpohchhaaGreatDoor
namespace Go.Proofs.YtkmbgkcpohchhaaGreatDoor
open Go.RowKit
set_option linter.unusedVariables false
def ZsAt (w : World) (a : Option Addr) (l : List Int) : Prop :=
  ∀ i (h : i < l.length), ∃ b off, a = some ⟨b, off, none⟩ ∧ b < w.heap.size ∧ w.cell? ⟨b, off + i, none⟩ = some (.int .i64 (l[i]'h))
theorem ZsAt.bw {w w' : World} {a : Option Addr} {l : List Int} (h : ZsAt w a l) (hb : Bw w w') : ZsAt w' a l := fun i hi => by
  obtain ⟨b, off, e, h1, h2⟩ := h i hi
  exact ⟨b, off, e, Nat.lt_of_lt_of_le h1 hb.size, (World.cell?_of_block (hb.block b h1)).trans h2⟩
def zeros16 : Array Value := #[.int .i64 0, .int .i64 0, .int .i64 0, .int .i64 0, .int .i64 0, .int .i64 0, .int .i64 0, .int .i64 0, .int .i64 0, .int .i64 0, .int .i64 0, .int .i64 0, .int .i64 0, .int .i64 0, .int .i64 0, .int .i64 0]
def cntV (l : List Int) : Value := if okLens l then .agg (talArr l) else .agg zeros16
theorem has_setCells {g : Nat} {t : TypeId} : ∀ (vs : List Value) (o : Nat) (cs : List Value) (w : World), Has w g t cs.toArray → o + vs.length ≤ cs.length → Has (w.setCells g o vs) g t (cs.take o ++ vs ++ cs.drop (o + vs.length)).toArray
  | [], o, cs, w, h, _ => by simpa [World.setCells] using h
  | v :: r, o, cs, w, h, hl => by
    rw [List.length_cons] at hl
    have h2 : Has (w.setCell ⟨g, o, none⟩ v) g t (cs.set o v).toArray := by
      have := h.put o v
      simpa using this
    have h3 := has_setCells r (o + 1) (cs.set o v) (w.setCell ⟨g, o, none⟩ v) h2 (by rw [List.length_set]; omega)
    rw [World.setCells]
    rw [list_seg_step cs o v r (by omega)] at h3
    exact h3
theorem has_all {w : World} {g : Nat} {t : TypeId} {cs : Array Value} (h : Has w g t cs) (vs : List Value) (hs : vs.length = cs.size) : Has (w.setCells g 0 vs) g t vs.toArray := by
  obtain ⟨l, rfl⟩ : ∃ l, cs = List.toArray l := ⟨cs.toList, by simp⟩
  have hl : vs.length = l.length := by simpa using hs
  have := has_setCells vs 0 l w h (by omega)
  rwa [List.take_zero, List.nil_append, Nat.zero_add, List.drop_eq_nil_of_le (by omega), List.append_nil] at this
theorem bw_setCells {w0 : World} {g : Nat} (hg : w0.heap.size ≤ g) : ∀ (vs : List Value) (o : Nat) (w : World), Bw w0 w → Bw w0 (w.setCells g o vs)
  | [], _, _, h => h
  | v :: r, o, w, h => by
    rw [World.setCells]
    exact bw_setCells hg r (o + 1) _ (Below.setCell h hg v)
end Go.Proofs.YtkmbgkcpohchhaaGreatDoor
namespace Go.Proofs.YtkmbgkcpohchhaaGreatDoor
open Go.RowKit
set_option linter.unusedVariables false
set_option maxRecDepth 100000 in
set_option maxHeartbeats 4000000 in
theorem count_big (a : Option Addr) (len cap : Nat) (hlen : 320 < len) (w : World) :
    Calls Tryz.prog 116 #[.slice a len cap] w fun e w' => e = .returned (.tuple #[.agg #[.int .i64 0, .int .i64 0, .int .i64 0, .int .i64 0, .int .i64 0, .int .i64 0, .int .i64 0, .int .i64 0, .int .i64 0, .int .i64 0, .int .i64 0, .int .i64 0, .int .i64 0, .int .i64 0, .int .i64 0, .int .i64 0], .bool false]) ∧ Bw w w' := by
  have HW1 := hid ((Bw.refl w).alloc (.cells #[.int .i64 0, .int .i64 0, .int .i64 0, .int .i64 0, .int .i64 0, .int .i64 0, .int .i64 0, .int .i64 0, .int .i64 0, .int .i64 0, .int .i64 0, .int .i64 0, .int .i64 0, .int .i64 0, .int .i64 0, .int .i64 0] 170))
  have hi : (320 : Int) < len := by omega
  go_enter Tryz.func116, Tryz.ntmps116
  go_wp2
  refine bodyPost_ret (by simp [results, Tryz.results116, go_sem]; try rfl) rfl ?_
  exact ⟨rfl, HW1.out⟩
set_option maxRecDepth 100000 in
set_option maxHeartbeats 4000000 in
theorem count_neg (a : Option Addr) (len cap : Nat) (hlen : len ≤ 320) (l : List Int) (hll : Hid (l.length = len)) (j : Nat) (hj : j < l.length) (hall : ∀ i (h : i < l.length), i < j → lenB l[i] = true) (hbad : l[j] < 0) (w : World) (hst : ZsAt w a l) :
    Calls Tryz.prog 116 #[.slice a len cap] w fun e w' => e = .returned (.tuple #[.agg #[.int .i64 0, .int .i64 0, .int .i64 0, .int .i64 0, .int .i64 0, .int .i64 0, .int .i64 0, .int .i64 0, .int .i64 0, .int .i64 0, .int .i64 0, .int .i64 0, .int .i64 0, .int .i64 0, .int .i64 0, .int .i64 0], .bool false]) ∧ Bw w w' := by
  have HALL := hid hall
  have HBAD := hid hbad

  have hjn : j < len := by rw [← hll.out]; exact hj
  clear hall hbad
  have hi : ¬ (320 : Int) < len := by omega
  have hx1 : Has (w.alloc (.cells #[.int .i64 0, .int .i64 0, .int .i64 0, .int .i64 0, .int .i64 0, .int .i64 0, .int .i64 0, .int .i64 0, .int .i64 0, .int .i64 0, .int .i64 0, .int .i64 0, .int .i64 0, .int .i64 0, .int .i64 0, .int .i64 0] 170)) w.heap.size 170 #[.int .i64 0, .int .i64 0, .int .i64 0, .int .i64 0, .int .i64 0, .int .i64 0, .int .i64 0, .int .i64 0, .int .i64 0, .int .i64 0, .int .i64 0, .int .i64 0, .int .i64 0, .int .i64 0, .int .i64 0, .int .i64 0] := Has.new w _ _
  have hx2 : Has ((w.alloc (.cells #[.int .i64 0, .int .i64 0, .int .i64 0, .int .i64 0, .int .i64 0, .int .i64 0, .int .i64 0, .int .i64 0, .int .i64 0, .int .i64 0, .int .i64 0, .int .i64 0, .int .i64 0, .int .i64 0, .int .i64 0, .int .i64 0] 170)).alloc (.cells #[.int .i64 0, .int .i64 0, .int .i64 0, .int .i64 0, .int .i64 0, .int .i64 0, .int .i64 0, .int .i64 0, .int .i64 0, .int .i64 0, .int .i64 0, .int .i64 0, .int .i64 0, .int .i64 0, .int .i64 0, .int .i64 0] 170)) (w.heap.size + 1) 170 #[.int .i64 0, .int .i64 0, .int .i64 0, .int .i64 0, .int .i64 0, .int .i64 0, .int .i64 0, .int .i64 0, .int .i64 0, .int .i64 0, .int .i64 0, .int .i64 0, .int .i64 0, .int .i64 0, .int .i64 0, .int .i64 0] := by
    have h := Has.new (w.alloc (.cells #[.int .i64 0, .int .i64 0, .int .i64 0, .int .i64 0, .int .i64 0, .int .i64 0, .int .i64 0, .int .i64 0, .int .i64 0, .int .i64 0, .int .i64 0, .int .i64 0, .int .i64 0, .int .i64 0, .int .i64 0, .int .i64 0] 170)) 170 #[.int .i64 0, .int .i64 0, .int .i64 0, .int .i64 0, .int .i64 0, .int .i64 0, .int .i64 0, .int .i64 0, .int .i64 0, .int .i64 0, .int .i64 0, .int .i64 0, .int .i64 0, .int .i64 0, .int .i64 0, .int .i64 0]
    simpa using h
  have HX2 := hid hx2
  have HXR := hid (hx1.alloc (.cells #[.int .i64 0, .int .i64 0, .int .i64 0, .int .i64 0, .int .i64 0, .int .i64 0, .int .i64 0, .int .i64 0, .int .i64 0, .int .i64 0, .int .i64 0, .int .i64 0, .int .i64 0, .int .i64 0, .int .i64 0, .int .i64 0] 170))
  have HW2 := hid (((Bw.refl w).alloc (.cells #[.int .i64 0, .int .i64 0, .int .i64 0, .int .i64 0, .int .i64 0, .int .i64 0, .int .i64 0, .int .i64 0, .int .i64 0, .int .i64 0, .int .i64 0, .int .i64 0, .int .i64 0, .int .i64 0, .int .i64 0, .int .i64 0] 170)).alloc (.cells #[.int .i64 0, .int .i64 0, .int .i64 0, .int .i64 0, .int .i64 0, .int .i64 0, .int .i64 0, .int .i64 0, .int .i64 0, .int .i64 0, .int .i64 0, .int .i64 0, .int .i64 0, .int .i64 0, .int .i64 0, .int .i64 0] 170))
  have HST := hid hst
  clear hx1 hx2 hst
  go_enter Tryz.func116, Tryz.ntmps116
  go_wp2_with fail
  obtain ⟨cb, hcb⟩ : ∃ cb, w.heap.size + 1 = cb := ⟨_, rfl⟩
  rw [hcb] at HX2 ⊢
  have HCB := hid hcb
  clear hcb
  generalize (w.alloc (.cells #[.int .i64 0, .int .i64 0, .int .i64 0, .int .i64 0, .int .i64 0, .int .i64 0, .int .i64 0, .int .i64 0, .int .i64 0, .int .i64 0, .int .i64 0, .int .i64 0, .int .i64 0, .int .i64 0, .int .i64 0, .int .i64 0] 170)).alloc (.cells #[.int .i64 0, .int .i64 0, .int .i64 0, .int .i64 0, .int .i64 0, .int .i64 0, .int .i64 0, .int .i64 0, .int .i64 0, .int .i64 0, .int .i64 0, .int .i64 0, .int .i64 0, .int .i64 0, .int .i64 0, .int .i64 0] 170) = W2 at *
  go_loopw [13] (fun i wr => ∃ k : Nat, k ≤ j ∧ i = .int .i64 k ∧ Has wr w.heap.size 170 #[.int .i64 0, .int .i64 0, .int .i64 0, .int .i64 0, .int .i64 0, .int .i64 0, .int .i64 0, .int .i64 0, .int .i64 0, .int .i64 0, .int .i64 0, .int .i64 0, .int .i64 0, .int .i64 0, .int .i64 0, .int .i64 0] ∧ Has wr cb 170 (talArr (l.take k)) ∧ Bw w wr) (fun i _ => len - (intOf i).toNat)
  case atStart => exact ⟨0, Nat.zero_le _, rfl, HXR.out, by rw [List.take_zero, talArr_nil]; exact HX2.out, HW2.out⟩
  case round =>
    obtain ⟨k, hk, rfl, hres, hh, hbw⟩ := hrel
    have HRES := hid hres
    have HH := hid hh
    have HBW := hid hbw
    by_cases hlt : k < j
    · have hlti : (k : Int) < len := by omega
      have hkl : k < l.length := by rw [hll.out]; omega
      have hx := HALL.out k hkl (by omega)
      obtain ⟨b, off, rfl, hbl, q0⟩ := HST.out k hkl
      have hts : l.take (k + 1) = l.take k ++ [l[k]] := List.take_succ_eq_append_getElem hkl
      have HTS := hid hts
      generalize l[k] = x at *
      have x0 : wr.cell? ⟨b, off + k, none⟩ = some (.int .i64 x) := (World.cell?_of_block (hbw.block b hbl)).trans q0
      obtain ⟨hx1, hx2⟩ := of_decide_eq_true hx
      clear hts hkl hres hh hbw q0 hx
      have hor : x = 0 ∨ (0 < x ∧ x ≤ 15) := by omega
      rcases hor with rfl | ⟨hp0, hp15⟩
      · have HT0 := hid (talArr_zero (l.take k))
        go_wp2
        go_roundw
        case rel => exact ⟨k + 1, by omega, by go_num, HRES.out, by rw [HTS.out, HT0.out]; exact HH.out, HBW.out⟩
        case measure => simp [intOf]; omega
      · obtain ⟨m, rfl⟩ := Int.eq_ofNat_of_zero_le (Int.le_of_lt hp0)
        have hm0 : 0 < m := by omega
        have hm15 : m ≤ 15 := by omega
        have hti := tal_le (l.take k) m
        have htl : (l.take k).length ≤ k := List.length_take_le _ _
        have cm : wr.cell? ⟨cb, m, none⟩ = some (.int .i64 (tal (l.take k) m : Nat)) := (HH.out.cell m).trans (talArr_get _ m (by omega))
        have cf := HH.out.frozen m
        have HPT := hid (HH.out.put m (.int .i64 (tal (l.take k) m + 1 : Nat)))
        rw [talArr_put (l.take k) m hm0 (by omega), ← HTS.out] at HPT
        have d1 : decide ((m : Int) < 0) = false := decide_eq_false (by omega)
        have d2 : decide (15 < (m : Int)) = false := decide_eq_false (by omega)
        have hr9 : (m : Int) < 16 := by omega
        generalize tal (l.take k) m = tm at *
        go_wp2
        have hcb2 := HCB.out
        exact ⟨⟨k + 1, by omega, by go_num, by simpa using (HRES.out.far (p := ⟨cb, m, none⟩) (show w.heap.size ≠ cb by omega) _), by simpa using HPT.out, Below.setCell HBW.out (p := ⟨cb, m, none⟩) (show w.heap.size ≤ cb by omega) _⟩, by simp [intOf]; omega⟩
    · obtain rfl : k = j := by omega
      have hlti : (k : Int) < len := by omega
      obtain ⟨b, off, rfl, hbl, q0⟩ := HST.out k hj
      generalize l[k] = x at *
      have x0 : wr.cell? ⟨b, off + k, none⟩ = some (.int .i64 x) := (World.cell?_of_block (hbw.block b hbl)).trans q0
      have hx := HBAD.out
      have d1 : decide (x < 0) = true := decide_eq_true hx
      clear hres hh hbw q0 hx HBAD
      have HPX := hid (has_all HRES.out [.int .i64 0, .int .i64 0, .int .i64 0, .int .i64 0, .int .i64 0, .int .i64 0, .int .i64 0, .int .i64 0, .int .i64 0, .int .i64 0, .int .i64 0, .int .i64 0, .int .i64 0, .int .i64 0, .int .i64 0, .int .i64 0] rfl)
      have HPB := hid (bw_setCells (Nat.le_refl w.heap.size) [.int .i64 0, .int .i64 0, .int .i64 0, .int .i64 0, .int .i64 0, .int .i64 0, .int .i64 0, .int .i64 0, .int .i64 0, .int .i64 0, .int .i64 0, .int .i64 0, .int .i64 0, .int .i64 0, .int .i64 0, .int .i64 0] 0 wr HBW.out)
      simp only [World.setCells, Nat.zero_add, Nat.reduceAdd] at HPX HPB
      have r0 : wr.cell? ⟨w.heap.size, 0, none⟩ = some (.int .i64 0) := HRES.out.cell 0
      have r1 : wr.cell? ⟨w.heap.size, 1, none⟩ = some (.int .i64 0) := HRES.out.cell 1
      have r2 : wr.cell? ⟨w.heap.size, 2, none⟩ = some (.int .i64 0) := HRES.out.cell 2
      have r3 : wr.cell? ⟨w.heap.size, 3, none⟩ = some (.int .i64 0) := HRES.out.cell 3
      have r4 : wr.cell? ⟨w.heap.size, 4, none⟩ = some (.int .i64 0) := HRES.out.cell 4
      have r5 : wr.cell? ⟨w.heap.size, 5, none⟩ = some (.int .i64 0) := HRES.out.cell 5
      have r6 : wr.cell? ⟨w.heap.size, 6, none⟩ = some (.int .i64 0) := HRES.out.cell 6
      have r7 : wr.cell? ⟨w.heap.size, 7, none⟩ = some (.int .i64 0) := HRES.out.cell 7
      have r8 : wr.cell? ⟨w.heap.size, 8, none⟩ = some (.int .i64 0) := HRES.out.cell 8
      have r9 : wr.cell? ⟨w.heap.size, 9, none⟩ = some (.int .i64 0) := HRES.out.cell 9
      have r10 : wr.cell? ⟨w.heap.size, 10, none⟩ = some (.int .i64 0) := HRES.out.cell 10
      have r11 : wr.cell? ⟨w.heap.size, 11, none⟩ = some (.int .i64 0) := HRES.out.cell 11
      have r12 : wr.cell? ⟨w.heap.size, 12, none⟩ = some (.int .i64 0) := HRES.out.cell 12
      have r13 : wr.cell? ⟨w.heap.size, 13, none⟩ = some (.int .i64 0) := HRES.out.cell 13
      have r14 : wr.cell? ⟨w.heap.size, 14, none⟩ = some (.int .i64 0) := HRES.out.cell 14
      have r15 : wr.cell? ⟨w.heap.size, 15, none⟩ = some (.int .i64 0) := HRES.out.cell 15
      have rf0 := HRES.out.frozen 0
      have rf1 := HRES.out.frozen 1
      have rf2 := HRES.out.frozen 2
      have rf3 := HRES.out.frozen 3
      have rf4 := HRES.out.frozen 4
      have rf5 := HRES.out.frozen 5
      have rf6 := HRES.out.frozen 6
      have rf7 := HRES.out.frozen 7
      have rf8 := HRES.out.frozen 8
      have rf9 := HRES.out.frozen 9
      have rf10 := HRES.out.frozen 10
      have rf11 := HRES.out.frozen 11
      have rf12 := HRES.out.frozen 12
      have rf13 := HRES.out.frozen 13
      have rf14 := HRES.out.frozen 14
      have rf15 := HRES.out.frozen 15
      go_wp2
      generalize World.setCell (World.setCell (World.setCell (World.setCell (World.setCell (World.setCell (World.setCell (World.setCell (World.setCell (World.setCell (World.setCell (World.setCell (World.setCell (World.setCell (World.setCell (World.setCell wr _ _) _ _) _ _) _ _) _ _) _ _) _ _) _ _) _ _) _ _) _ _) _ _) _ _) _ _) _ _) _ _ = W3 at *
      have p0 : W3.cell? ⟨w.heap.size, 0, none⟩ = some (.int .i64 0) := HPX.out.cell 0
      have p1 : W3.cell? ⟨w.heap.size, 1, none⟩ = some (.int .i64 0) := HPX.out.cell 1
      have p2 : W3.cell? ⟨w.heap.size, 2, none⟩ = some (.int .i64 0) := HPX.out.cell 2
      have p3 : W3.cell? ⟨w.heap.size, 3, none⟩ = some (.int .i64 0) := HPX.out.cell 3
      have p4 : W3.cell? ⟨w.heap.size, 4, none⟩ = some (.int .i64 0) := HPX.out.cell 4
      have p5 : W3.cell? ⟨w.heap.size, 5, none⟩ = some (.int .i64 0) := HPX.out.cell 5
      have p6 : W3.cell? ⟨w.heap.size, 6, none⟩ = some (.int .i64 0) := HPX.out.cell 6
      have p7 : W3.cell? ⟨w.heap.size, 7, none⟩ = some (.int .i64 0) := HPX.out.cell 7
      have p8 : W3.cell? ⟨w.heap.size, 8, none⟩ = some (.int .i64 0) := HPX.out.cell 8
      have p9 : W3.cell? ⟨w.heap.size, 9, none⟩ = some (.int .i64 0) := HPX.out.cell 9
      have p10 : W3.cell? ⟨w.heap.size, 10, none⟩ = some (.int .i64 0) := HPX.out.cell 10
      have p11 : W3.cell? ⟨w.heap.size, 11, none⟩ = some (.int .i64 0) := HPX.out.cell 11
      have p12 : W3.cell? ⟨w.heap.size, 12, none⟩ = some (.int .i64 0) := HPX.out.cell 12
      have p13 : W3.cell? ⟨w.heap.size, 13, none⟩ = some (.int .i64 0) := HPX.out.cell 13
      have p14 : W3.cell? ⟨w.heap.size, 14, none⟩ = some (.int .i64 0) := HPX.out.cell 14
      have p15 : W3.cell? ⟨w.heap.size, 15, none⟩ = some (.int .i64 0) := HPX.out.cell 15
      clear HPX
      try simp only [Exit.inBlock, Exit.then]
      refine bodyPost_ret (by simp [results, Tryz.results116, go_sem, p0, p1, p2, p3, p4, p5, p6, p7, p8, p9, p10, p11, p12, p13, p14, p15]; try rfl) rfl ?_
      exact ⟨rfl, HPB.out⟩
end Go.Proofs.YtkmbgkcpohchhaaGreatDoor
namespace Go.Proofs.YtkmbgkcpohchhaaGreatDoor
open Go.RowKit
set_option linter.unusedVariables false
set_option maxRecDepth 100000 in
set_option maxHeartbeats 4000000 in
theorem count_great (a : Option Addr) (len cap : Nat) (hlen : len ≤ 320) (l : List Int) (hll : Hid (l.length = len)) (j : Nat) (hj : j < l.length) (hall : ∀ i (h : i < l.length), i < j → lenB l[i] = true) (hbad : 15 < l[j]) (w : World) (hst : ZsAt w a l) :
    Calls Tryz.prog 116 #[.slice a len cap] w fun e w' => e = .returned (.tuple #[.agg #[.int .i64 0, .int .i64 0, .int .i64 0, .int .i64 0, .int .i64 0, .int .i64 0, .int .i64 0, .int .i64 0, .int .i64 0, .int .i64 0, .int .i64 0, .int .i64 0, .int .i64 0, .int .i64 0, .int .i64 0, .int .i64 0], .bool false]) ∧ Bw w w' := by
  have HALL := hid hall
  have HBAD := hid hbad

  have hjn : j < len := by rw [← hll.out]; exact hj
  clear hall hbad
  have hi : ¬ (320 : Int) < len := by omega
  have hx1 : Has (w.alloc (.cells #[.int .i64 0, .int .i64 0, .int .i64 0, .int .i64 0, .int .i64 0, .int .i64 0, .int .i64 0, .int .i64 0, .int .i64 0, .int .i64 0, .int .i64 0, .int .i64 0, .int .i64 0, .int .i64 0, .int .i64 0, .int .i64 0] 170)) w.heap.size 170 #[.int .i64 0, .int .i64 0, .int .i64 0, .int .i64 0, .int .i64 0, .int .i64 0, .int .i64 0, .int .i64 0, .int .i64 0, .int .i64 0, .int .i64 0, .int .i64 0, .int .i64 0, .int .i64 0, .int .i64 0, .int .i64 0] := Has.new w _ _
  have hx2 : Has ((w.alloc (.cells #[.int .i64 0, .int .i64 0, .int .i64 0, .int .i64 0, .int .i64 0, .int .i64 0, .int .i64 0, .int .i64 0, .int .i64 0, .int .i64 0, .int .i64 0, .int .i64 0, .int .i64 0, .int .i64 0, .int .i64 0, .int .i64 0] 170)).alloc (.cells #[.int .i64 0, .int .i64 0, .int .i64 0, .int .i64 0, .int .i64 0, .int .i64 0, .int .i64 0, .int .i64 0, .int .i64 0, .int .i64 0, .int .i64 0, .int .i64 0, .int .i64 0, .int .i64 0, .int .i64 0, .int .i64 0] 170)) (w.heap.size + 1) 170 #[.int .i64 0, .int .i64 0, .int .i64 0, .int .i64 0, .int .i64 0, .int .i64 0, .int .i64 0, .int .i64 0, .int .i64 0, .int .i64 0, .int .i64 0, .int .i64 0, .int .i64 0, .int .i64 0, .int .i64 0, .int .i64 0] := by
    have h := Has.new (w.alloc (.cells #[.int .i64 0, .int .i64 0, .int .i64 0, .int .i64 0, .int .i64 0, .int .i64 0, .int .i64 0, .int .i64 0, .int .i64 0, .int .i64 0, .int .i64 0, .int .i64 0, .int .i64 0, .int .i64 0, .int .i64 0, .int .i64 0] 170)) 170 #[.int .i64 0, .int .i64 0, .int .i64 0, .int .i64 0, .int .i64 0, .int .i64 0, .int .i64 0, .int .i64 0, .int .i64 0, .int .i64 0, .int .i64 0, .int .i64 0, .int .i64 0, .int .i64 0, .int .i64 0, .int .i64 0]
    simpa using h
  have HX2 := hid hx2
  have HXR := hid (hx1.alloc (.cells #[.int .i64 0, .int .i64 0, .int .i64 0, .int .i64 0, .int .i64 0, .int .i64 0, .int .i64 0, .int .i64 0, .int .i64 0, .int .i64 0, .int .i64 0, .int .i64 0, .int .i64 0, .int .i64 0, .int .i64 0, .int .i64 0] 170))
  have HW2 := hid (((Bw.refl w).alloc (.cells #[.int .i64 0, .int .i64 0, .int .i64 0, .int .i64 0, .int .i64 0, .int .i64 0, .int .i64 0, .int .i64 0, .int .i64 0, .int .i64 0, .int .i64 0, .int .i64 0, .int .i64 0, .int .i64 0, .int .i64 0, .int .i64 0] 170)).alloc (.cells #[.int .i64 0, .int .i64 0, .int .i64 0, .int .i64 0, .int .i64 0, .int .i64 0, .int .i64 0, .int .i64 0, .int .i64 0, .int .i64 0, .int .i64 0, .int .i64 0, .int .i64 0, .int .i64 0, .int .i64 0, .int .i64 0] 170))
  have HST := hid hst
  clear hx1 hx2 hst
  go_enter Tryz.func116, Tryz.ntmps116
  go_wp2_with fail
  obtain ⟨cb, hcb⟩ : ∃ cb, w.heap.size + 1 = cb := ⟨_, rfl⟩
  rw [hcb] at HX2 ⊢
  have HCB := hid hcb
  clear hcb
  generalize (w.alloc (.cells #[.int .i64 0, .int .i64 0, .int .i64 0, .int .i64 0, .int .i64 0, .int .i64 0, .int .i64 0, .int .i64 0, .int .i64 0, .int .i64 0, .int .i64 0, .int .i64 0, .int .i64 0, .int .i64 0, .int .i64 0, .int .i64 0] 170)).alloc (.cells #[.int .i64 0, .int .i64 0, .int .i64 0, .int .i64 0, .int .i64 0, .int .i64 0, .int .i64 0, .int .i64 0, .int .i64 0, .int .i64 0, .int .i64 0, .int .i64 0, .int .i64 0, .int .i64 0, .int .i64 0, .int .i64 0] 170) = W2 at *
  go_loopw [13] (fun i wr => ∃ k : Nat, k ≤ j ∧ i = .int .i64 k ∧ Has wr w.heap.size 170 #[.int .i64 0, .int .i64 0, .int .i64 0, .int .i64 0, .int .i64 0, .int .i64 0, .int .i64 0, .int .i64 0, .int .i64 0, .int .i64 0, .int .i64 0, .int .i64 0, .int .i64 0, .int .i64 0, .int .i64 0, .int .i64 0] ∧ Has wr cb 170 (talArr (l.take k)) ∧ Bw w wr) (fun i _ => len - (intOf i).toNat)
  case atStart => exact ⟨0, Nat.zero_le _, rfl, HXR.out, by rw [List.take_zero, talArr_nil]; exact HX2.out, HW2.out⟩
  case round =>
    obtain ⟨k, hk, rfl, hres, hh, hbw⟩ := hrel
    have HRES := hid hres
    have HH := hid hh
    have HBW := hid hbw
    by_cases hlt : k < j
    · have hlti : (k : Int) < len := by omega
      have hkl : k < l.length := by rw [hll.out]; omega
      have hx := HALL.out k hkl (by omega)
      obtain ⟨b, off, rfl, hbl, q0⟩ := HST.out k hkl
      have hts : l.take (k + 1) = l.take k ++ [l[k]] := List.take_succ_eq_append_getElem hkl
      have HTS := hid hts
      generalize l[k] = x at *
      have x0 : wr.cell? ⟨b, off + k, none⟩ = some (.int .i64 x) := (World.cell?_of_block (hbw.block b hbl)).trans q0
      obtain ⟨hx1, hx2⟩ := of_decide_eq_true hx
      clear hts hkl hres hh hbw q0 hx
      have hor : x = 0 ∨ (0 < x ∧ x ≤ 15) := by omega
      rcases hor with rfl | ⟨hp0, hp15⟩
      · have HT0 := hid (talArr_zero (l.take k))
        go_wp2
        go_roundw
        case rel => exact ⟨k + 1, by omega, by go_num, HRES.out, by rw [HTS.out, HT0.out]; exact HH.out, HBW.out⟩
        case measure => simp [intOf]; omega
      · obtain ⟨m, rfl⟩ := Int.eq_ofNat_of_zero_le (Int.le_of_lt hp0)
        have hm0 : 0 < m := by omega
        have hm15 : m ≤ 15 := by omega
        have hti := tal_le (l.take k) m
        have htl : (l.take k).length ≤ k := List.length_take_le _ _
        have cm : wr.cell? ⟨cb, m, none⟩ = some (.int .i64 (tal (l.take k) m : Nat)) := (HH.out.cell m).trans (talArr_get _ m (by omega))
        have cf := HH.out.frozen m
        have HPT := hid (HH.out.put m (.int .i64 (tal (l.take k) m + 1 : Nat)))
        rw [talArr_put (l.take k) m hm0 (by omega), ← HTS.out] at HPT
        have d1 : decide ((m : Int) < 0) = false := decide_eq_false (by omega)
        have d2 : decide (15 < (m : Int)) = false := decide_eq_false (by omega)
        have hr9 : (m : Int) < 16 := by omega
        generalize tal (l.take k) m = tm at *
        go_wp2
        have hcb2 := HCB.out
        exact ⟨⟨k + 1, by omega, by go_num, by simpa using (HRES.out.far (p := ⟨cb, m, none⟩) (show w.heap.size ≠ cb by omega) _), by simpa using HPT.out, Below.setCell HBW.out (p := ⟨cb, m, none⟩) (show w.heap.size ≤ cb by omega) _⟩, by simp [intOf]; omega⟩
    · obtain rfl : k = j := by omega
      have hlti : (k : Int) < len := by omega
      obtain ⟨b, off, rfl, hbl, q0⟩ := HST.out k hj
      generalize l[k] = x at *
      have x0 : wr.cell? ⟨b, off + k, none⟩ = some (.int .i64 x) := (World.cell?_of_block (hbw.block b hbl)).trans q0
      have hx := HBAD.out
      have d1 : decide (x < 0) = false := decide_eq_false (by omega)
      have d2 : decide (15 < x) = true := decide_eq_true hx
      clear hres hh hbw q0 hx HBAD
      have HPX := hid (has_all HRES.out [.int .i64 0, .int .i64 0, .int .i64 0, .int .i64 0, .int .i64 0, .int .i64 0, .int .i64 0, .int .i64 0, .int .i64 0, .int .i64 0, .int .i64 0, .int .i64 0, .int .i64 0, .int .i64 0, .int .i64 0, .int .i64 0] rfl)
      have HPB := hid (bw_setCells (Nat.le_refl w.heap.size) [.int .i64 0, .int .i64 0, .int .i64 0, .int .i64 0, .int .i64 0, .int .i64 0, .int .i64 0, .int .i64 0, .int .i64 0, .int .i64 0, .int .i64 0, .int .i64 0, .int .i64 0, .int .i64 0, .int .i64 0, .int .i64 0] 0 wr HBW.out)
      simp only [World.setCells, Nat.zero_add, Nat.reduceAdd] at HPX HPB
      have r0 : wr.cell? ⟨w.heap.size, 0, none⟩ = some (.int .i64 0) := HRES.out.cell 0
      have r1 : wr.cell? ⟨w.heap.size, 1, none⟩ = some (.int .i64 0) := HRES.out.cell 1
      have r2 : wr.cell? ⟨w.heap.size, 2, none⟩ = some (.int .i64 0) := HRES.out.cell 2
      have r3 : wr.cell? ⟨w.heap.size, 3, none⟩ = some (.int .i64 0) := HRES.out.cell 3
      have r4 : wr.cell? ⟨w.heap.size, 4, none⟩ = some (.int .i64 0) := HRES.out.cell 4
      have r5 : wr.cell? ⟨w.heap.size, 5, none⟩ = some (.int .i64 0) := HRES.out.cell 5
      have r6 : wr.cell? ⟨w.heap.size, 6, none⟩ = some (.int .i64 0) := HRES.out.cell 6
      have r7 : wr.cell? ⟨w.heap.size, 7, none⟩ = some (.int .i64 0) := HRES.out.cell 7
      have r8 : wr.cell? ⟨w.heap.size, 8, none⟩ = some (.int .i64 0) := HRES.out.cell 8
      have r9 : wr.cell? ⟨w.heap.size, 9, none⟩ = some (.int .i64 0) := HRES.out.cell 9
      have r10 : wr.cell? ⟨w.heap.size, 10, none⟩ = some (.int .i64 0) := HRES.out.cell 10
      have r11 : wr.cell? ⟨w.heap.size, 11, none⟩ = some (.int .i64 0) := HRES.out.cell 11
      have r12 : wr.cell? ⟨w.heap.size, 12, none⟩ = some (.int .i64 0) := HRES.out.cell 12
      have r13 : wr.cell? ⟨w.heap.size, 13, none⟩ = some (.int .i64 0) := HRES.out.cell 13
      have r14 : wr.cell? ⟨w.heap.size, 14, none⟩ = some (.int .i64 0) := HRES.out.cell 14
      have r15 : wr.cell? ⟨w.heap.size, 15, none⟩ = some (.int .i64 0) := HRES.out.cell 15
      have rf0 := HRES.out.frozen 0
      have rf1 := HRES.out.frozen 1
      have rf2 := HRES.out.frozen 2
      have rf3 := HRES.out.frozen 3
      have rf4 := HRES.out.frozen 4
      have rf5 := HRES.out.frozen 5
      have rf6 := HRES.out.frozen 6
      have rf7 := HRES.out.frozen 7
      have rf8 := HRES.out.frozen 8
      have rf9 := HRES.out.frozen 9
      have rf10 := HRES.out.frozen 10
      have rf11 := HRES.out.frozen 11
      have rf12 := HRES.out.frozen 12
      have rf13 := HRES.out.frozen 13
      have rf14 := HRES.out.frozen 14
      have rf15 := HRES.out.frozen 15
      go_wp2
      generalize World.setCell (World.setCell (World.setCell (World.setCell (World.setCell (World.setCell (World.setCell (World.setCell (World.setCell (World.setCell (World.setCell (World.setCell (World.setCell (World.setCell (World.setCell (World.setCell wr _ _) _ _) _ _) _ _) _ _) _ _) _ _) _ _) _ _) _ _) _ _) _ _) _ _) _ _) _ _) _ _ = W3 at *
      have p0 : W3.cell? ⟨w.heap.size, 0, none⟩ = some (.int .i64 0) := HPX.out.cell 0
      have p1 : W3.cell? ⟨w.heap.size, 1, none⟩ = some (.int .i64 0) := HPX.out.cell 1
      have p2 : W3.cell? ⟨w.heap.size, 2, none⟩ = some (.int .i64 0) := HPX.out.cell 2
      have p3 : W3.cell? ⟨w.heap.size, 3, none⟩ = some (.int .i64 0) := HPX.out.cell 3
      have p4 : W3.cell? ⟨w.heap.size, 4, none⟩ = some (.int .i64 0) := HPX.out.cell 4
      have p5 : W3.cell? ⟨w.heap.size, 5, none⟩ = some (.int .i64 0) := HPX.out.cell 5
      have p6 : W3.cell? ⟨w.heap.size, 6, none⟩ = some (.int .i64 0) := HPX.out.cell 6
      have p7 : W3.cell? ⟨w.heap.size, 7, none⟩ = some (.int .i64 0) := HPX.out.cell 7
      have p8 : W3.cell? ⟨w.heap.size, 8, none⟩ = some (.int .i64 0) := HPX.out.cell 8
      have p9 : W3.cell? ⟨w.heap.size, 9, none⟩ = some (.int .i64 0) := HPX.out.cell 9
      have p10 : W3.cell? ⟨w.heap.size, 10, none⟩ = some (.int .i64 0) := HPX.out.cell 10
      have p11 : W3.cell? ⟨w.heap.size, 11, none⟩ = some (.int .i64 0) := HPX.out.cell 11
      have p12 : W3.cell? ⟨w.heap.size, 12, none⟩ = some (.int .i64 0) := HPX.out.cell 12
      have p13 : W3.cell? ⟨w.heap.size, 13, none⟩ = some (.int .i64 0) := HPX.out.cell 13
      have p14 : W3.cell? ⟨w.heap.size, 14, none⟩ = some (.int .i64 0) := HPX.out.cell 14
      have p15 : W3.cell? ⟨w.heap.size, 15, none⟩ = some (.int .i64 0) := HPX.out.cell 15
      clear HPX
      try simp only [Exit.inBlock, Exit.then]
      refine bodyPost_ret (by simp [results, Tryz.results116, go_sem, p0, p1, p2, p3, p4, p5, p6, p7, p8, p9, p10, p11, p12, p13, p14, p15]; try rfl) rfl ?_
      exact ⟨rfl, HPB.out⟩
end Go.Proofs.YtkmbgkcpohchhaaGreatDoor

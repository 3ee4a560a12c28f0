/- The document's source in memory, and what its ReadAt returns and leaves. -/
import Derived.Test.YteclomkhienhiaaSrxA
namespace Go.Proofs.Yteclomkhienhiaa
open Go.RowKit Go.Conc
set_option linter.unusedVariables false
/-- The parts of the document's source. -/
structure SrxB (w : World) (g : Nat) (s : ByteArray) (ao : Option Addr) (cap : Nat) (rd : Value) (l : List (Int × Int)) (sp : List (Nat × Nat)) : Prop where
  blk : Has w g 41 #[.string s, .slice ao l.length cap, rd]
  st : StepsAt w ao l
  row : w.ownsRow 0 45 2 rd sp.length (spanCells sp)
  cp : l.length ≤ cap
  apart : ∀ b off, ao = some ⟨b, off, none⟩ → b ≠ g ∧ rd.ownBlock ≠ some b ∧ b < w.heap.size
theorem SrxB.ne {w : World} {g : Nat} {s : ByteArray} {ao : Option Addr} {cap : Nat} {rd : Value} {l : List (Int × Int)} {sp : List (Nat × Nat)} (h : SrxB w g s ao cap rd l sp) : rd.ownBlock ≠ some g := own_ne_has h.row h.blk (by decide)
theorem StepsAt.keep {F : Nat → Prop} {w w' : World} {a : Option Addr} {l : List (Int × Int)} (h : StepsAt w a l) (hk : Keeps F w w') (hF : ∀ b off, a = some ⟨b, off, none⟩ → ¬ F b) : StepsAt w' a l := fun i hi => by
  obtain ⟨b, off, e, hl, c0, c1⟩ := h i hi
  have hb := hk.block b hl (hF b off e)
  exact ⟨b, off, e, Nat.lt_of_lt_of_le hl hk.size, (World.cell?_of_block hb).trans c0, (World.cell?_of_block hb).trans c1⟩
theorem SrxB.keep {F : Nat → Prop} {w w' : World} {g : Nat} {s : ByteArray} {ao : Option Addr} {cap : Nat} {rd : Value} {l : List (Int × Int)} {sp : List (Nat × Nat)} (h : SrxB w g s ao cap rd l sp) (hk : Keeps F w w') (h1 : ¬ F g) (h2 : ∀ b, rd.ownBlock = some b → ¬ F b) (h3 : ∀ b off, ao = some ⟨b, off, none⟩ → ¬ F b) : SrxB w' g s ao cap rd l sp :=
  ⟨hk.has h.blk h1, h.st.keep hk h3, own_keep h.row fun b hb => hk.block b (own_lt h.row hb) (h2 b hb), h.cp, fun b off e => ⟨(h.apart b off e).1, (h.apart b off e).2.1, Nat.lt_of_lt_of_le (h.apart b off e).2.2 hk.size⟩⟩
/-- All blocks of the document's source are of F. -/
def Srx (F : Nat → Prop) (w : World) (g : Nat) (s : ByteArray) (l : List (Int × Int)) (sp : List (Nat × Nat)) : Prop :=
  ∃ ao cap rd, SrxB w g s ao cap rd l sp ∧ F g ∧ (∀ b, rd.ownBlock = some b → F b) ∧ (∀ b off, ao = some ⟨b, off, none⟩ → F b) ∧ ∀ i, F i → i < w.heap.size
theorem Srx.keep {F G : Nat → Prop} {w w' : World} {g : Nat} {s : ByteArray} {l : List (Int × Int)} {sp : List (Nat × Nat)} (h : Srx F w g s l sp) (hk : Keeps G w w') (hd : ∀ i, F i → ¬ G i) : Srx F w' g s l sp := by
  obtain ⟨ao, cap, rd, h1, h2, h3, h4, h5⟩ := h
  exact ⟨ao, cap, rd, h1.keep hk (hd _ h2) (fun b hb => hd _ (h3 b hb)) (fun b off e => hd _ (h4 b off e)), h2, h3, h4, fun i hi => Nat.lt_of_lt_of_le (h5 i hi) hk.size⟩
def RxPost (F : Nat → Prop) (g : Nat) (s : ByteArray) (r : ByteArray × Int × List (Int × Int)) (sp : List (Nat × Nat)) (w : World) (e : Ending) (w' : World) : Prop :=
  e = .returned (.tuple #[.string r.1, .int .i64 r.2.1]) ∧ ∃ F', Srx F' w' g s r.2.2 sp ∧ Keeps F w w' ∧ ∀ i, F' i → F i ∨ w.heap.size ≤ i
def askB (a n : Int) : Bool := decide (0 ≤ a ∧ 0 ≤ n ∧ n ≤ 1048576)
theorem asks_any (a n : Int) (w : World) :
    Calls Try.prog 42 #[.int .i64 a, .int .i64 n] w fun e w' => e = .returned (.bool (askB a n)) ∧ w = w' := by
  have hor : (decide (0 ≤ a) = false ∧ askB a n = false) ∨ (decide (0 ≤ a) = true ∧ decide (0 ≤ n) = false ∧ askB a n = false) ∨ (decide (0 ≤ a) = true ∧ decide (0 ≤ n) = true ∧ decide (n ≤ 1048576) = askB a n) := by
    unfold askB
    by_cases h1 : 0 ≤ a <;> by_cases h2 : 0 ≤ n <;> simp [h1, h2]
  rcases hor with ⟨h1, h2⟩ | ⟨h1, h2, h3⟩ | ⟨h1, h2, h3⟩
  · rw [h2]
    have h1 : ¬ 0 ≤ a := by simpa using h1
    clear h2
    go_enter Try.func42, Try.ntmps42
    go_wp2
    go_ret
    exact ⟨rfl, rfl⟩
  · rw [h3]
    have h1 : 0 ≤ a := by simpa using h1
    have h2 : ¬ 0 ≤ n := by simpa using h2
    clear h3
    go_enter Try.func42, Try.ntmps42
    go_wp2
    go_ret
    exact ⟨rfl, rfl⟩
  · rw [← h3]
    have h1 : 0 ≤ a := by simpa using h1
    have h2 : 0 ≤ n := by simpa using h2
    clear h3
    go_enter Try.func42, Try.ntmps42
    go_wp2
    go_ret
    exact ⟨rfl, rfl⟩
theorem rx_bad (F : Nat → Prop) (g : Nat) (s : ByteArray) (l : List (Int × Int)) (sp : List (Nat × Nat)) (a n : Int) (h : askB a n = false) (w : World) (hS : Srx F w g s l sp) :
    Calls Try.prog 15 #[.pointer (some ⟨g, 0, none⟩), .int .i64 a, .int .i64 n] w (RxPost F g s (⟨#[]⟩, 1, l) sp w) := by
  have ha := asks_any a n w
  rw [h] at ha
  have HA := hid ha
  have HS := hid hS
  clear ha h hS
  go_enter Try.func15, Try.ntmps15
  go_wp2_with fail
  refine HA.out.mono ?_
  rintro e w' ⟨rfl, rfl⟩
  go_wp2
  go_returns
  exact ⟨rfl, F, HS.out, Keeps.refl _ _, fun i h => .inl h⟩
/-- What the step says, how much is told, and with which error. -/
structure Told (s : ByteArray) (p q : Nat) (x0 : Int) (x1 k : Nat) (E : Int) : Prop where
  kq : k ≤ q
  ks : k = 0 ∨ p + k ≤ s.size
  val : rdV s p q x0 x1 = s.extract p (p + k)
  err : rdE s.size p q x0 x1 = E
theorem told_v {s : ByteArray} {p q : Nat} {x0 : Int} {x1 k : Nat} {E : Int} (h : Told s p q x0 x1 k E) : (rdV s p q x0 x1).size = k := by
  rw [h.val, ByteArray.size_extract]
  rcases h.ks with rfl | h
  · omega
  · omega
end Go.Proofs.Yteclomkhienhiaa

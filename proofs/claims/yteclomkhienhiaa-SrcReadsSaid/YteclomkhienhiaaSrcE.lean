/- The examples that every statement of layer 2 asks beside what it says: they are answered as the document has them (a contract of the statements' own function live). -/
import Derived.Test.YteclomkhienhiaaSrcD
namespace Go.Proofs.Yteclomkhienhiaa
open Go.RowKit Go.Conc
set_option linter.unusedVariables false

theorem SrcF.mono {F G : Nat → Prop} {w : World} {g : Nat} {s : ByteArray} {l : List (Int × Int)} {sp : List (Nat × Nat)} (h : SrcF F w g s l sp) (hg : ∀ i, F i → G i) : SrcF G w g s l sp := by
  obtain ⟨c, rd, h1, h2, h3, h⟩ := h
  exact ⟨c, rd, hg _ h1, hg _ h2, fun b hb => hg _ (h3 b hb), h⟩
/-- The source's blocks are all new: ReadAt leaves the old ones as they were. -/
theorem readAt_B (B : Nat) (g : Nat) (s : ByteArray) (hs : s.size ≤ 140737488351232) (sp : List (Nat × Nat)) (hsp : sp.length ≤ 1000000000) (l : List (Int × Int)) (hok : OkAll l) (a n : Int) (V : ByteArray) (E : Int) (l' : List (Int × Int)) (hr : rdAll s l a n = (V, E, l'))
    (w : World) (hB : B ≤ w.heap.size) (h : SrcF (B ≤ ·) w g s l sp) :
    Calls Try.prog 14 #[.pointer (some ⟨g, 0, none⟩), .int .i64 a, .int .i64 n] w fun e w' => e = .returned (.tuple #[.string V, .int .i64 E]) ∧ SrcF (B ≤ ·) w' g s l' (rdSp sp a.toNat V) ∧ Below B w w' := by
  refine (readAt_any (B ≤ ·) g s hs sp hsp l hok a n w h).mono fun e w' h => ?_
  unfold RdAny at h
  rw [hr] at h
  obtain ⟨F', he, hF, hK, hsub⟩ := h
  refine ⟨he, hF.mono fun i hi => ?_, hK.below hB fun i hi => hi⟩
  rcases hsub i hi with h | h
  · exact h
  · show B ≤ i
    omega
/-- What New leaves where the steps may be. -/
theorem new_good {s : ByteArray} {l : List (Int × Int)} (hok : newOk l = true) {w : World} {e : Ending} {w' : World} (h : NewPost s l w e w') :
    ∃ g, e = .returned (.tuple #[.pointer (some ⟨g, 0, none⟩), .int .i64 0]) ∧ SrcF (w.heap.size ≤ ·) w' g s l [] ∧ Bw w w' := by
  unfold NewPost at h
  rw [hok] at h
  obtain ⟨g, c, he, h1, h2, hgc, hH, hS, hb⟩ := h
  exact ⟨g, he, ⟨c, .slice none 0 0, h1, h2, fun b hb => by simp [Value.ownBlock] at hb, hgc, hH, hS, World.ownsRow_nil _ _ _ _⟩, hb⟩
theorem newOk_all {l : List (Int × Int)} (h : newOk l = true) : OkAll l := fun x hx => by
  unfold newOk at h
  rw [Bool.and_eq_true] at h
  have := List.all_eq_true.1 h.2 x hx
  simpa using this
def stp2 : List (Int × Int) := [(1, 1), (2, 0)]
def abcd2 : ByteArray := ⟨#[97, 98, 99, 100]⟩
theorem steps_lit (w : World) (t : TypeId) : StepsAt (w.alloc (.cells #[.int .i64 1, .int .i64 1, .int .i64 2, .int .i64 0] t)) (some ⟨w.heap.size, 0, none⟩) stp2 := fun i hi => by
  have hn := Has.new w t #[.int .i64 1, .int .i64 1, .int .i64 2, .int .i64 0]
  match i, hi with
  | 0, _ => exact ⟨_, 0, rfl, by simp, hn.cell 0, hn.cell 1⟩
  | 1, _ => exact ⟨_, 0, rfl, by simp, hn.cell 2, hn.cell 3⟩
def NewB (s : ByteArray) (l : List (Int × Int)) (w : World) (e : Ending) (w' : World) : Prop := ∃ g, e = .returned (.tuple #[.pointer (some ⟨g, 0, none⟩), .int .i64 0]) ∧ SrcF (w.heap.size ≤ ·) w' g s l [] ∧ Bw w w'
set_option maxRecDepth 100000 in
set_option maxHeartbeats 2000000 in
theorem live2_any (w : World) :
    Calls Try.prog 9 #[] w fun e w' => e = .returned (.bool true) ∧ Bw w w' := by
  go_enter Try.func9, Try.ntmps9
  go_wp2_with fail
  refine (new_any abcd2 _ 2 2 stp2 rfl _ (steps_lit w _)).mono ?_
  intro e w1 h0
  obtain ⟨g, rfl, hF1, hb1⟩ := new_good (by decide) h0
  clear h0
  have hz1 := hb1.size
  have HF1 := hid hF1
  clear hF1
  go_wp2_with fail
  refine (readAt_B (w.heap.size + 1) g abcd2 (by decide) [] (by decide) stp2 (newOk_all (by decide)) 0 3 ⟨#[97]⟩ 0 [(2, 0)] (by decide +kernel) _ (by simp at hz1; omega) (by have := HF1.out; simpa using this)).mono ?_
  rintro e w2 ⟨rfl, hF2, hb2⟩
  have HF2 := hid hF2
  clear hF2 HF1
  go_wp2_with fail
  refine (readAt_B (w.heap.size + 1) g abcd2 (by decide) _ (by decide) [(2, 0)] (fun x hx => by simp at hx; subst hx; exact .inl ⟨.inr rfl, rfl⟩) 0 3 ⟨#[]⟩ 7 [] (by decide +kernel) _ (by have := hb2.size; simp at hz1; omega) HF2.out).mono ?_
  rintro e w3 ⟨rfl, hF3, hb3⟩
  have HF3 := hid hF3
  clear hF3 HF2
  go_wp2_with fail
  refine (readAt_B (w.heap.size + 1) g abcd2 (by decide) _ (by decide) [] (fun x hx => by simp at hx) 2 3 ⟨#[99, 100]⟩ 2 [] (by decide +kernel) _ (by have := hb2.size; have := hb3.size; simp at hz1; omega) HF3.out).mono ?_
  rintro e w4 ⟨rfl, hF4, hb4⟩
  have HF4 := hid hF4
  clear hF4 HF3
  go_wp2_with fail
  refine (left_any _ g abcd2 _ [] _ HF4.out).mono ?_
  rintro e w5 ⟨rfl, rfl⟩
  go_wp2_with fail
  refine (slen_any _ g abcd2 (by decide) _ [] _ HF4.out).mono ?_
  rintro e w5 ⟨rfl, rfl⟩
  go_wp2
  go_returns
  refine ⟨rfl, ?_⟩
  have hall := (((Bw.refl w).alloc (.cells #[.int .i64 1, .int .i64 1, .int .i64 2, .int .i64 0] 33)).trans hb1)
  exact Below.trans hall ((Below.mono hb2 (by omega)).trans ((Below.mono hb3 (by omega)).trans (Below.mono hb4 (by omega))))
end Go.Proofs.Yteclomkhienhiaa

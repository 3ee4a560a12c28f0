import Derived.Test.YtkmbgkcpohchhaaGreatDoorGInfK
/- Inflate: some answers, and live (contract of the function); the plain sides of the laws. -/
namespace Go.Proofs.YtkmbgkcpohchhaaGreatDoor
open Go.RowKit Go.Conc
set_option linter.unusedVariables false
theorem Tabs.bw {w w' : World} (h : Tabs w.heap.size w) (hb : Bw w w') : Tabs w'.heap.size w' := by
  have h2 := h.kt (T := []) (D := w.heap.size) (KT.of_bw hb) (Nat.le_refl _)
  have hz := hb.size
  exact ⟨⟨by have := h2.len.lt; omega, h2.len.cell⟩, ⟨by have := h2.dist.lt; omega, h2.dist.cell⟩, ⟨by have := h2.ord.lt; omega, h2.ord.cell⟩⟩
theorem inflate_is (s : ByteArray) (hs : s.size ≤ 281474976710656) (lim : Int) {a : ByteArray} {n er : Int} (hk : InfR s lim a n er) (w : World) (ht : Tabs w.heap.size w) :
    Calls Tryz.prog 18 #[.string s, .int .i64 lim] w fun e w' => e = .returned (.tuple #[.string a, .int .i64 n, .int .i64 er]) ∧ Bw w w' := by
  refine (inflate_any s hs lim w ht).mono ?_
  rintro e w' ⟨a', n', er', rfl, hr, hb⟩
  obtain ⟨rfl, rfl, rfl⟩ := hr.unique hk
  exact ⟨rfl, hb⟩
theorem infR_le {s : ByteArray} {L : Int} {a : ByteArray} {n e : Int} (h : InfR s L a n e) : 0 ≤ n ∧ n ≤ s.size := by
  rcases h with ⟨h0, rfl, rfl, rfl⟩ | ⟨L1, e1, hL, ⟨k1, o1, ⟨i, hi⟩, rfl, rfl, rfl⟩ | ⟨_, rfl, rfl, hne⟩⟩
  · omega
  · have h8 := itr_pos s L1 i start (Nat.zero_le _)
    rw [hi] at h8
    have h8 : k1 ≤ 8 * s.size := h8
    omega
  · omega
end Go.Proofs.YtkmbgkcpohchhaaGreatDoor

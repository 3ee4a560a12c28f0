/- What the document says of a few spans: live (contract of the function). -/
import Derived.Test.YtemgdnloabefjaaRegX
import Derived.Test.YtemgdnloabefjaaRegN
import Derived.Test.YtemgdnloabefjaaRegO
namespace Go.Proofs.Ytemgdnloabefjaa
open Go.RowKit Go.Conc
set_option linter.unusedVariables false
def liv0 : List PartR := [⟨2, 4, 7⟩]
def liv1 : List PartR := [⟨2, 4, 7⟩, ⟨6, 8, 9⟩]
theorem two_spans (l : List (Nat × Nat)) (w : World) (g : Nat) (t : TypeId) (h : Has w g t (spanCells l).toArray) : SpansAt w (some ⟨g, 0, none⟩) l := fun i hi => by
  obtain ⟨h3, h4⟩ := spanCells_get l i hi
  refine ⟨g, 0, rfl, h.lt, ?_, ?_⟩
  · rw [h.cell]; simpa using h3
  · rw [h.cell]; simpa using h4
theorem One.start {w w' : World} {g : Nat} (hh : Has w' g 81 #[.slice none 0 0]) (hg : w.heap.size ≤ g) (hb : Bw w w') : One w w' g [] :=
  ⟨fun i => w.heap.size ≤ i, ⟨_, hh, hg, .inl ⟨rfl, rfl⟩⟩, fun _ h => h, hb⟩
set_option maxRecDepth 100000 in
theorem new_has (w : World) :
    Calls Try.prog 14 #[] w fun e w' => ∃ g : Nat, e = .returned (.pointer (some ⟨g, 0, none⟩)) ∧ Has w' g 81 #[.slice none 0 0] ∧ w.heap.size ≤ g ∧ Bw w w' := by
  have H : Hid (Has (w.alloc (.cells #[.slice none 0 0] 81)) w.heap.size 81 #[.slice none 0 0]) := hid (Has.new w _ _)
  have HB := hid ((Bw.refl w).alloc (.cells #[.slice none 0 0] 81))
  go_enter Try.func14, Try.ntmps14
  go_wp2
  go_returns
  exact ⟨_, rfl, H.out, Nat.le_refl _, HB.out⟩
theorem rise0 : Rising liv0 := ⟨by decide, by decide⟩
theorem rise1 : Rising liv1 := ⟨by decide, by decide, by decide, by decide⟩
set_option maxRecDepth 100000 in
set_option maxHeartbeats 4000000 in
theorem live_any (w : World) :
    Calls Try.prog 25 #[] w fun e w' => e = .returned (.bool true) ∧ Bw w w' := by
  have A1 : Hid (∀ W g, One w W g [] → Calls Try.prog 17 #[.pointer (some ⟨g, 0, none⟩), .int .i64 2, .int .i64 4, .int .i64 7] W fun e w' => e = .returned (.int .i64 0) ∧ One w w' g liv0) := hid fun W g h => by
    have := one_add w g [] trivial (by decide) 2 4 7 W h
    rwa [show addE [] 2 4 = 0 by decide, show addL [] 2 4 7 = liv0 from rfl] at this
  have A2 : Hid (∀ W g, One w W g liv0 → Calls Try.prog 17 #[.pointer (some ⟨g, 0, none⟩), .int .i64 6, .int .i64 8, .int .i64 9] W fun e w' => e = .returned (.int .i64 0) ∧ One w w' g liv1) := hid fun W g h => by
    have := one_add w g liv0 rise0 (by decide) 6 8 9 W h
    rwa [show addE liv0 6 8 = 0 by decide, show addL liv0 6 8 9 = liv1 from rfl] at this
  have A3 : Hid (∀ W g, One w W g liv1 → Calls Try.prog 17 #[.pointer (some ⟨g, 0, none⟩), .int .i64 3, .int .i64 5, .int .i64 1] W fun e w' => e = .returned (.int .i64 5) ∧ One w w' g liv1) := hid fun W g h => by
    have := one_add w g liv1 rise1 (by decide) 3 5 1 W h
    rwa [show addE liv1 3 5 = 5 by decide, show addL liv1 3 5 1 = liv1 from rfl] at this
  have A4 : Hid (∀ W g, SetAt W g liv1 → Calls Try.prog 22 #[.pointer (some ⟨g, 0, none⟩), .int .i64 0, .int .i64 9] W fun e w' => ∃ v : Value, e = .returned v ∧ w'.ownsRow W.heap.size 31 2 v 3 (spanCells [(0, 2), (4, 6), (8, 9)]) ∧ Bw W w') := hid fun W g h => by
    have := gaps_ok g liv1 rise1 (by decide) 0 9 W h (by decide)
    rwa [show rgaps liv1 0 9 = [(0, 2), (4, 6), (8, 9)] by decide] at this
  have A5 : Hid (∀ W g, SetAt W g liv1 → Calls Try.prog 26 #[.pointer (some ⟨g, 0, none⟩), .int .i64 7] W fun e w' => e = .returned (.tuple #[.int .i64 9, .bool true]) ∧ Bw W w') := hid fun W g h => by
    have := find_any g liv1 rise1 (by decide) 7 W h
    rwa [show findV liv1 7 = 9 by decide, show findB liv1 7 = true by decide] at this
  have A6 : Hid (∀ W g, SetAt W g liv1 → Calls Try.prog 20 #[.pointer (some ⟨g, 0, none⟩), .int .i64 0, .int .i64 9] W fun e w' => e = .returned (.int .i64 4) ∧ Bw W w') := hid fun W g h => by
    have := covered_ok g liv1 rise1 (by decide) 0 9 W h (by decide)
    rwa [show covN liv1 0 9 = 4 by decide] at this
  have A7 := hid (fun (W : World) => new_has W)
  go_enter Try.func25, Try.ntmps25
  go_wp2_with fail
  refine (A7.out _).mono ?_
  rintro e w1 ⟨g, rfl, hh, hg, hb⟩
  have H1 := hid (One.start hh hg hb)
  clear hh hg hb
  go_wp2_with fail
  refine (A1.out _ g H1.out).mono ?_
  rintro e w2 ⟨rfl, ho⟩
  have H2 := hid ho
  clear ho
  go_wp2_with fail
  refine (A2.out _ g H2.out).mono ?_
  rintro e w3 ⟨rfl, ho⟩
  have H3 := hid ho
  clear ho
  go_wp2_with fail
  refine (A3.out _ g H3.out).mono ?_
  rintro e w4 ⟨rfl, ho⟩
  have H4 := hid ho
  clear ho
  go_wp2_with fail
  refine (A4.out _ g H4.out.at).mono ?_
  rintro e w5 ⟨v, rfl, hown, hb⟩
  obtain ⟨vo, vc, rfl⟩ := own_slice hown
  have H5 := hid (H4.out.bw hb)
  have HOW := hid hown
  clear hown hb
  go_wp2_with fail
  refine (A5.out _ g H5.out.at).mono ?_
  rintro e w6 ⟨rfl, hb⟩
  have HO6 := hid (hb.own (own_low' HOW.out))
  have H6 := hid (H5.out.bw hb)
  clear hb
  go_wp2_with fail
  refine (A6.out _ g H6.out.at).mono ?_
  rintro e w7 ⟨rfl, hb⟩
  have HO7 := hid (hb.own HO6.out)
  have H7 := hid (H6.out.bw hb)
  clear hb
  go_wp2_with fail
  have hc := Has.new w7 31 #[.int .i64 0, .int .i64 2, .int .i64 4, .int .i64 6, .int .i64 8, .int .i64 9]
  have HS1 := hid (spans_own (l := [(0, 2), (4, 6), (8, 9)]) (((Bw.refl w7).alloc (.cells #[.int .i64 0, .int .i64 2, .int .i64 4, .int .i64 6, .int .i64 8, .int .i64 9] 31)).own HO7.out))
  have HS2 := hid (two_spans [(0, 2), (4, 6), (8, 9)] _ _ _ hc)
  have H8 := hid (H7.out.bw ((Bw.refl w7).alloc (.cells #[.int .i64 0, .int .i64 2, .int .i64 4, .int .i64 6, .int .i64 8, .int .i64 9] 31)))
  clear hc
  refine (same_any vo (some ⟨w7.heap.size, 0, none⟩) 3 vc 3 (by omega) [(0, 2), (4, 6), (8, 9)] (hid rfl) _ HS1.out HS2.out).mono ?_
  rintro e w9 ⟨rfl, z, hz⟩
  have H9 : Hid (One w w9 g liv1) := hid (H8.out.bw (by rw [hz]; exact (Bw.refl _).drewN z))
  clear hz
  go_wp2
  go_returns
  exact ⟨rfl, H9.out.low⟩
end Go.Proofs.Ytemgdnloabefjaa

import Derived.Test.YtkmbgkcpohchhaaGreatDoorGZlbW
/- Unzip: some answers, and live (contract of the function); the plain side of ZlibHeads. -/
namespace Go.Proofs.YtkmbgkcpohchhaaGreatDoor
open Go.RowKit Go.Conc
set_option linter.unusedVariables false
theorem zi1 : InfR ⟨#[3, 0, 0, 0, 0, 1, 122]⟩ 0 ⟨#[]⟩ 2 0 := .inr ⟨0, rfl, by decide, .inl ⟨10, [], Leads.of_itr 2 (by kernel_rfl), rfl, rfl, rfl⟩⟩
theorem zi2 : InfR ⟨#[3, 0, 0, 0, 0, 2]⟩ 0 ⟨#[]⟩ 2 0 := .inr ⟨0, rfl, by decide, .inl ⟨10, [], Leads.of_itr 2 (by kernel_rfl), rfl, rfl, rfl⟩⟩
theorem zv1 : UnzR ⟨#[120, 156, 3, 0, 0, 0, 0, 1, 122]⟩ 0 ⟨#[]⟩ 8 0 := .inr ⟨by decide +kernel, ⟨#[]⟩, 2, 0, by
  rw [show (⟨#[120, 156, 3, 0, 0, 0, 0, 1, 122]⟩ : ByteArray).extract 2 (⟨#[120, 156, 3, 0, 0, 0, 0, 1, 122]⟩ : ByteArray).size = ⟨#[3, 0, 0, 0, 0, 1, 122]⟩ by decide +kernel]; exact zi1, by decide +kernel⟩
theorem zv2 : UnzR ⟨#[120, 156, 3, 0, 0, 0, 0, 2]⟩ 0 ⟨#[]⟩ 0 4 := .inr ⟨by decide +kernel, ⟨#[]⟩, 2, 0, by
  rw [show (⟨#[120, 156, 3, 0, 0, 0, 0, 2]⟩ : ByteArray).extract 2 (⟨#[120, 156, 3, 0, 0, 0, 0, 2]⟩ : ByteArray).size = ⟨#[3, 0, 0, 0, 0, 2]⟩ by decide +kernel]; exact zi2, by decide +kernel⟩
theorem zv3 : UnzR ⟨#[120, 157]⟩ 0 ⟨#[]⟩ 0 3 := .inl ⟨by decide +kernel, rfl, rfl⟩
theorem unzip_is (s : ByteArray) (hs : s.size ≤ 140737488351232) (L : Int) {a : ByteArray} {n er : Int} (hk : UnzR s L a n er) (w : World) (ht : Tabs w.heap.size w) :
    Calls Tryz.prog 23 #[.string s, .int .i64 L] w fun e w' => e = .returned (.tuple #[.string a, .int .i64 n, .int .i64 er]) ∧ Bw w w' := by
  refine (unzip_any s hs L w ht).mono ?_
  rintro e w' ⟨a', n', er', rfl, hr, hb⟩
  obtain ⟨rfl, rfl, rfl⟩ := hr.unique hk
  exact ⟨rfl, hb⟩
set_option maxRecDepth 100000 in
set_option maxHeartbeats 4000000 in
theorem zlive_any (w : World) (ht : Tabs w.heap.size w) :
    Calls Tryz.prog 19 #[] w fun e w' => e = .returned (.bool true) ∧ Bw w w' := by
  have HT := hid ht
  clear ht
  go_enter Tryz.func19, Tryz.ntmps19
  go_wp2_with fail
  refine (unzip_is _ (by decide) 0 zv1 w HT.out).mono ?_
  rintro e w1 ⟨rfl, hb1⟩
  have HB1 := hid hb1
  clear hb1
  go_wp2_with fail
  refine (unzip_is _ (by decide) 0 zv2 w1 (HT.out.bw HB1.out)).mono ?_
  rintro e w2 ⟨rfl, hb2⟩
  have HB2 := hid (HB1.out.trans hb2)
  clear hb2
  go_wp2_with fail
  refine (unzip_is _ (by decide) 0 zv3 w2 (HT.out.bw HB2.out)).mono ?_
  rintro e w3 ⟨rfl, hb3⟩
  have HB3 := hid (HB2.out.trans hb3)
  clear hb3
  go_wp2
  go_returns
  exact ⟨rfl, HB3.out⟩
/-! The plain side of ZlibHeads. -/
end Go.Proofs.YtkmbgkcpohchhaaGreatDoor

/- The answers that the document gives (live) are the program's, whatever the world (the table holds what the program's text lays). -/
import Derived.Test.YtkdnlnnmeeeolaaDoorSumB
namespace Go.Proofs.YtkdnlnnmeeeolaaDoor
open Go.RowKit
set_option maxRecDepth 100000
def nine : ByteArray := ⟨#[49, 50, 51, 52, 53, 54, 55, 56, 57]⟩
def wiki : ByteArray := ⟨#[87, 105, 107, 105, 112, 101, 100, 105, 97]⟩
def ff : ByteArray := ⟨#[255]⟩
theorem live_crc : moreN 0 nine.data.toList = 3421780262 := by decide +kernel
theorem live_adl : adlN 1 wiki = 300286872 := by decide +kernel
theorem live_wrd : wrdN ff ff.size = 4278190080 := by decide +kernel
theorem crc_nine (w : World) (hh : Halves w) : Calls Tryd.prog 10 #[.string ⟨#[49, 50, 51, 52, 53, 54, 55, 56, 57]⟩] w fun e w' => e = .returned (.int .u32 3421780262) ∧ w = w' :=
  (crc_any nine (by decide) w hh).mono fun _ _ ⟨h1, h2⟩ => ⟨by rw [h1, live_crc]; rfl, h2⟩
theorem adl_wiki (w : World) : Calls Tryd.prog 15 #[.string ⟨#[87, 105, 107, 105, 112, 101, 100, 105, 97]⟩] w fun e w' => e = .returned (.int .u32 300286872) ∧ w = w' :=
  (adler_any wiki (by decide) w).mono fun _ _ ⟨h1, h2⟩ => ⟨by rw [h1, live_adl]; rfl, h2⟩
theorem wrd_ff (w : World) : Calls Tryd.prog 19 #[.string ⟨#[255]⟩] w fun e w' => e = .returned (.int .u32 4278190080) ∧ w = w' :=
  (words_any ff (by decide) w).mono fun _ _ ⟨h1, h2⟩ => ⟨by rw [h1, live_wrd]; rfl, h2⟩

set_option maxHeartbeats 400000 in
theorem live_any (w : World) (hh : Halves w) :
    Calls Tryd.prog 14 #[] w fun e w' => e = .returned (.bool true) ∧ w = w' := by
  have HH := hid hh
  clear hh
  go_enter Tryd.func14, Tryd.ntmps14
  go_wp2_with fail
  refine (tar_bad ⟨#[]⟩ (by decide) _).mono ?_
  rintro e w' ⟨rfl, rfl⟩
  go_wp2_with fail
  refine (crc_nine _ HH.out).mono ?_
  rintro e w' ⟨rfl, rfl⟩
  go_wp2_with fail
  refine (adl_wiki _).mono ?_
  rintro e w' ⟨rfl, rfl⟩
  go_wp2_with fail
  refine (wrd_ff _).mono ?_
  rintro e w' ⟨rfl, rfl⟩
  go_wp2
  go_ret
  exact ⟨rfl, rfl⟩
theorem le_lim {n : Nat} (h : n ≤ 140737488351232) : n ≤ lim := by unfold lim; omega
theorem str_le {s : ByteArray} (h : s.data.toList.length ≤ reachBytes) : s.size ≤ 140737488351232 := by
  have h4 : s.size = s.data.toList.length := by simp
  have h5 : reachBytes = 140737488351232 := by decide
  omega
end Go.Proofs.YtkdnlnnmeeeolaaDoor

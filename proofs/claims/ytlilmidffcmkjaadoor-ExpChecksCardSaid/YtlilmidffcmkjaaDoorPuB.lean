/- strconv.ParseUint at base 10 and 16, 64 bits: a number, or an error that is not nil (contracts). -/
import Derived.Test.YtlilmidffcmkjaaDoorPuA
import Derived.Test.YtlilmidffcmkjaaDoorShelfE
namespace Go.Proofs.YtlilmidffcmkjaaDoor
open Go.RowKit
set_option linter.unusedVariables false
set_option linter.unusedSimpArgs false
/-- The library's two errors, in memory. -/
def ErrsAt (w : World) : Prop := ∃ a b, w.cell? ⟨6, 0, none⟩ = some a ∧ (a = .nilIface ∨ ∃ te pe, a = .iface te pe) ∧ w.cell? ⟨7, 0, none⟩ = some b ∧ (b = .nilIface ∨ ∃ te pe, b = .iface te pe)
theorem ErrsAt.bw {w w' : World} (h : ErrsAt w) (hb : Bw w w') : ErrsAt w' := by
  obtain ⟨a, b, h1, h2, h3, h4⟩ := h
  exact ⟨a, b, hb.cell h1, h2, hb.cell h3, h4⟩
/-- A number, or an error. -/
def PuP (r : Lib.NumEnd Nat) (w : World) (e : Ending) (w' : World) : Prop :=
  Bw w w' ∧ match r with
    | .ok n => e = .returned (.tuple #[.int .u64 (n : Nat), .nilIface])
    | _ => ∃ m t p, e = .returned (.tuple #[.int .u64 (m : Nat), .iface t p])
theorem pu10_any (s : ByteArray) (hs : s.size ≤ 1000000) (w : World) (hE : ErrsAt w) :
    Calls Tryd.prog 79 #[.string s, .int .i64 10, .int .i64 64] w (PuP (Lib.parseUintB 64 s.data.toList) w) := by
  obtain ⟨a, b, h1, h2, h3, h4⟩ := hE
  cases hr : Lib.parseUintB 64 s.data.toList with
  | ok n =>
    refine (Any.strconv_ParseUint_10_at64_ok laysPu14 s (by omega) n hr w).mono ?_
    rintro e w' ⟨he, hw⟩
    refine ⟨?_, he⟩
    rcases hw with rfl | rfl
    · exact Bw.refl _
    · exact Lib.bytesWorld_below _ _ _
  | «syntax» =>
    refine (Any.strconv_ParseUint_10_at64_syntax laysPu14 s (by omega) hr a w h1 h2).mono ?_
    rintro e w' ⟨N, he, _, _, hb⟩
    exact ⟨hb, 0, _, _, he⟩
  | range =>
    refine (Any.strconv_ParseUint_10_at64_range laysPu14 s (by omega) hr b w h3 h4).mono ?_
    rintro e w' ⟨N, he, _, _, hb⟩
    exact ⟨hb, 18446744073709551615, _, _, he⟩
/-- What base 16 gives. -/
def puH (l : List UInt8) : Lib.NumEnd Nat := if l = [] then .syntax else par16 0 l
theorem pu16_i (s : ByteArray) (hs : s.size ≤ 1000000) (w : World) :
    Calls Tryd.prog 84 #[.string s, .int .i64 16, .int .i64 64] w fun e w' => e = .returned (Lib.uintTuple 128 (puH s.data.toList)) ∧ Bw w w' := by
  unfold puH
  by_cases h0 : s.size = 0
  · obtain rfl := toList_nil h0
    exact (pu16_empty w).mono fun e w' ⟨h1, h2⟩ => ⟨h1, h2 ▸ Bw.refl _⟩
  · have hne : s.data.toList ≠ [] := fun h => h0 (by rw [Lib.size_eq, h]; rfl)
    rw [if_neg hne]
    exact (pu16_in s h0 (by omega) w).mono fun e w' ⟨h1, h2⟩ => ⟨h1, h2 ▸ Lib.bytesWorld_below _ _ _⟩
set_option maxHeartbeats 4000000 in
set_option maxRecDepth 100000 in
theorem pu16_any (s : ByteArray) (hs : s.size ≤ 1000000) (w : World) (hE : ErrsAt w) :
    Calls Tryd.prog 79 #[.string s, .int .i64 16, .int .i64 64] w (PuP (puH s.data.toList) w) := by
  have HI := hid (pu16_i s hs w)
  have HE := hid hE
  clear hE
  cases hr : puH s.data.toList with
  | ok n =>
    rw [hr] at HI
    have HI2 : Hid (Calls Tryd.prog 84 #[.string s, .int .i64 16, .int .i64 64] w fun e w' => e = .returned (.tuple #[.int .u64 (n : Nat), .nilIface]) ∧ Bw w w') := HI
    clear HI hr
    go_enter Tryd.func79, Tryd.ntmps79
    go_wp2_with (go_at_call 84; refine HI2.out.mono ?_; rintro e W1 ⟨rfl, hb⟩; have HB := hid hb; clear hb)
    go_wp2
    go_ret2
    exact ⟨HB.out, rfl⟩
  | «syntax» =>
    rw [hr] at HI
    have HI2 : Hid (Calls Tryd.prog 84 #[.string s, .int .i64 16, .int .i64 64] w fun e w' => e = .returned (.tuple #[.int .u64 0, .iface 128 (.int .i64 2)]) ∧ Bw w w') := HI
    clear HI hr
    go_enter Tryd.func79, Tryd.ntmps79
    go_wp2_with (go_at_call 84; refine HI2.out.mono ?_)
    rintro e W1 ⟨rfl, hb⟩
    have HB := hid hb
    obtain ⟨a, b, h1, h2, h3, h4⟩ := HE.out.bw hb
    have HT := hid (AnyPu.strconv_toError_syntax { laysPu14 with } ⟨#[80, 97, 114, 115, 101, 85, 105, 110, 116]⟩ s 16 64 a W1 (by omega) h1 h2)
    clear hb h1 h2 h3 h4
    go_wp2_with (go_at_call 85; refine HT.out.mono ?_)
    rintro e W2 ⟨N, rfl, g1, g2, g3⟩
    have HB2 := hid (HB.out.trans g3)
    clear g1 g2 g3
    go_wp2
    go_ret2
    exact ⟨HB2.out, 0, _, _, rfl⟩
  | range =>
    rw [hr] at HI
    have HI2 : Hid (Calls Tryd.prog 84 #[.string s, .int .i64 16, .int .i64 64] w fun e w' => e = .returned (.tuple #[.int .u64 18446744073709551615, .iface 128 (.int .i64 1)]) ∧ Bw w w') := HI
    clear HI hr
    go_enter Tryd.func79, Tryd.ntmps79
    go_wp2_with (go_at_call 84; refine HI2.out.mono ?_)
    rintro e W1 ⟨rfl, hb⟩
    have HB := hid hb
    obtain ⟨a, b, h1, h2, h3, h4⟩ := HE.out.bw hb
    have HT := hid (AnyPu.strconv_toError_range { laysPu14 with } ⟨#[80, 97, 114, 115, 101, 85, 105, 110, 116]⟩ s 16 64 b W1 (by omega) h3 h4)
    clear hb h1 h2 h3 h4
    go_wp2_with (go_at_call 85; refine HT.out.mono ?_)
    rintro e W2 ⟨N, rfl, g1, g2, g3⟩
    have HB2 := hid (HB.out.trans g3)
    clear g1 g2 g3
    go_wp2
    go_ret2
    exact ⟨HB2.out, 18446744073709551615, _, _, rfl⟩
end Go.Proofs.YtlilmidffcmkjaaDoor

/- live holds (contract of the laws' own function). -/
import Derived.Test.YtlilmidffcmkjaaGreatDoorPrsJ
import Derived.Test.YtlilmidffcmkjaaGreatDoorExpQd
import Derived.Test.YtlilmidffcmkjaaGreatDoorExpVc
namespace Go.Proofs.YtlilmidffcmkjaaGreatDoor
open Go.RowKit
set_option linter.unusedVariables false
set_option linter.unusedSimpArgs false
/-- What stands in memory: operators, the library's errors, its table of tens. -/
structure EnvAt (w : World) : Prop where
  sgn : SgnAt w
  errs : ErrsAt w
  pow : PowAt w
theorem EnvAt.bw {w w' : World} (h : EnvAt w) (hb : Bw w w') : EnvAt w' := ⟨h.sgn.bw hb, h.errs.bw hb, h.pow.bw hb⟩
def lvT : ByteArray := ⟨#[40, 49, 32, 43, 32, 50, 41, 32, 42, 32, 110]⟩
def lvL : List ExpR := [⟨nilS, nilS, 1, 0, 0⟩, ⟨nilS, nilS, 2, 0, 0⟩, ⟨⟨#[43]⟩, nilS, 0, 0, 1⟩, ⟨nilS, ⟨#[110]⟩, 0, 0, 0⟩, ⟨⟨#[42]⟩, nilS, 0, 2, 3⟩]
def lvN : List BindR := [⟨⟨#[110]⟩, 5⟩]
theorem lv_parse : parseF lvT = some lvL := by decide +kernel
theorem lv_bad : parseF ⟨#[49, 32, 43]⟩ = none := by decide +kernel
theorem lv_eval : evalX lvL 4 lvN = (15, 0) := by decide +kernel
theorem lv_print : printX lvL 4 = (lvT, 0) := by decide +kernel
theorem lv_bnd (w w' : World) (hb : Bw (w.alloc (.cells #[.string ⟨#[110]⟩, .int .u64 5] 46)) w') : BndAt w' (some ⟨w.heap.size, 0, none⟩) lvN := by
  have hn := hb.has (Has.new w 46 #[.string ⟨#[110]⟩, .int .u64 5])
  intro i hi
  have hi0 : i = 0 := by have : lvN.length = 1 := rfl; omega
  subst hi0
  exact ⟨w.heap.size, 0, rfl, hn.lt, hn.cell 0, hn.cell 1, by show (⟨#[110]⟩ : ByteArray).size ≤ 9223372036854775807; decide, by show (5 : Nat) < 18446744073709551616; decide⟩
/-- What a text's list is, in memory: what Parse tells where the text is right. -/
theorem parse_ok {s : ByteArray} {l : List ExpR} (hp : parseF s = some l) (hs : s.size ≤ 20000) (w : World) (h : EnvAt w) :
    Calls Tryz.prog 4 #[.string s] w fun e w' => ∃ a c, e = .returned (.tuple #[.slice a l.length c, .int .i64 0]) ∧ Bw w w' ∧ ExpAt w' a l := by
  refine (parse_any s (by omega) w h.errs h.sgn).mono ?_
  rintro e w' ⟨hb, hx⟩
  rw [if_neg (by omega), hp] at hx
  obtain ⟨a, c, he, ho, hk, hf⟩ := hx
  exact ⟨a, c, he, hb, ExpAt.of_own ho hk⟩
theorem parse_bad {s : ByteArray} (hp : parseF s = none) (hs : s.size ≤ 20000) (w : World) (h : EnvAt w) :
    Calls Tryz.prog 4 #[.string s] w fun e w' => e = .returned (.tuple #[.slice none 0 0, .int .i64 8]) ∧ Bw w w' := by
  refine (parse_any s (by omega) w h.errs h.sgn).mono ?_
  rintro e w' ⟨hb, hx⟩
  rw [if_neg (by omega), hp] at hx
  exact ⟨hx, hb⟩
theorem parse_long {s : ByteArray} (hs : 20000 < s.size) (hs2 : s.size ≤ 9223372036854775807) (w : World) (h : EnvAt w) :
    Calls Tryz.prog 4 #[.string s] w fun e w' => e = .returned (.tuple #[.slice none 0 0, .int .i64 11]) ∧ Bw w w' := by
  refine (parse_any s hs2 w h.errs h.sgn).mono ?_
  rintro e w' ⟨hb, hx⟩
  rw [if_pos hs] at hx
  exact ⟨hx, hb⟩
set_option maxRecDepth 100000 in
set_option maxHeartbeats 4000000 in
theorem live_any (w : World) (h : EnvAt w) : Calls Tryz.prog 7 #[] w fun e w' => e = .returned (.bool true) ∧ Bw w w' := by
  have H := hid h
  have HP1 := hid (parse_ok lv_parse (by decide) w h)
  have hev := lv_eval
  have hpr := lv_print
  have HL5 := hid (show lvL.length = 5 from rfl)
  clear h
  go_enter Tryz.func7, Tryz.ntmps7
  go_wp2_with fail
  refine HP1.out.mono ?_
  rintro e w1 ⟨a, c, rfl, hb1, ha1⟩
  have HB1 := hid hb1
  have HA1 := hid ha1
  clear hb1 ha1
  have e5 : lvL.length = 5 := rfl
  rw [e5]
  clear e5
  have HA2 := hid ((Bw.refl w1).alloc (.cells #[.string ⟨#[110]⟩, .int .u64 5] 46))
  have HE2 := hid (eval_any a 5 c (by decide) lvL (hid rfl) 4 (some ⟨w1.heap.size, 0, none⟩) 1 1 (by decide) lvN (hid rfl) (w1.alloc (.cells #[.string ⟨#[110]⟩, .int .u64 5] 46)) (HA1.out.below HA2.out) (lv_bnd w1 _ (Bw.refl _)) ((H.out.bw (HB1.out.trans HA2.out)).sgn))
  rw [hev] at HE2
  go_wp2_with fail
  refine HE2.out.mono ?_
  rintro e w2 ⟨rfl, hb2⟩
  have HB2 := hid (HB1.out.trans (HA2.out.trans hb2))
  have HP2 := hid (print_any a 5 c (by decide) lvL (hid rfl) 4 w2 (HA1.out.below (HA2.out.trans hb2)) (H.out.bw HB2.out).sgn (H.out.bw HB2.out).pow)
  rw [hpr] at HP2
  clear hb2 hev hpr
  unfold lvT at HP2
  go_wp2_with fail
  refine HP2.out.mono ?_
  rintro e w3 ⟨rfl, hb3⟩
  have HB3 := hid (HB2.out.trans hb3)
  have HP3 := hid (parse_bad lv_bad (by decide) w3 (H.out.bw HB3.out))
  clear hb3
  go_wp2_with fail
  refine HP3.out.mono ?_
  rintro e w4 ⟨rfl, hb4⟩
  have HB4 := hid (HB3.out.trans hb4)
  clear hb4
  go_wp2
  go_returns
  exact ⟨rfl, HB4.out⟩
end Go.Proofs.YtlilmidffcmkjaaGreatDoor

import Derived.Test.YtlilmidffcmkjaaGreatDoorPrsX
import Derived.Lib.Strings
import Derived.Lib.Walk
import Derived.Lib.ConvBytes
import Derived.Lib.AtoiAllMem
import Derived.Lib.Hide
import Derived.Laws.Strings3
import Derived.Laws.Closers25
import Derived.Laws.Closers25b
import Derived.WalkKit
import Derived.BigCall
import Derived.BigGuard
import Derived.Test.YtlilmidffcmkjaaGreatDoorShelfE
/- internal/strconv.ParseUint at base 16 (contract of the function; its text walked). -/
namespace Go.Proofs.YtlilmidffcmkjaaGreatDoor
open Go.RowKit
set_option linter.unusedVariables false
set_option linter.unusedSimpArgs false
/-- A byte's lower case. -/
def lowN (c : Nat) : Nat := c ||| 32
theorem low_all : (List.range 256).all (fun c => decide (bits .or .u8 (c : Int) 32 = ((lowN c : Nat) : Int)) && decide (lowN c < 256) && decide (hexD c = if 48 ≤ c ∧ c ≤ 57 then c - 48 else if 97 ≤ lowN c ∧ lowN c ≤ 122 then lowN c - 87 else 99) && (decide (c ≠ 95) || decide (lowN c = 127))) = true := by decide +kernel
theorem low_at {c : Nat} (h : c < 256) : bits .or .u8 (c : Int) 32 = ((lowN c : Nat) : Int) ∧ lowN c < 256 ∧ (hexD c = if 48 ≤ c ∧ c ≤ 57 then c - 48 else if 97 ≤ lowN c ∧ lowN c ≤ 122 then lowN c - 87 else 99) ∧ (c = 95 → lowN c = 127) := by
  have := List.all_eq_true.1 low_all c (List.mem_range.2 h)
  simp only [Bool.and_eq_true, Bool.or_eq_true, decide_eq_true_eq] at this
  exact ⟨this.1.1.1, this.1.1.2, this.1.2, fun h => this.2.resolve_left (fun k => k h)⟩
set_option maxRecDepth 100000 in
set_option maxHeartbeats 1000000 in
theorem lower_any (c : Nat) (h : c < 256) (w : World) :
    Calls Tryz.prog 84 #[.int .u8 (c : Nat)] w fun e w' => e = .returned (.int .u8 (lowN c : Nat)) ∧ w' = w := by
  have HE := hid (low_at h).1
  clear h
  go_enter Tryz.func84, Tryz.ntmps84
  go_wp2
  go_returns
  exact ⟨by rw [← HE.out]; rfl, rfl⟩
set_option maxHeartbeats 32000000 in
set_option maxRecDepth 100000 in
theorem pu16_in (t : ByteArray) (hne : t.size ≠ 0) (hmax : t.size ≤ 9223372036854775806) (w : World) :
    Calls Tryz.prog 77 #[.string t, .int .i64 16, .int .i64 64] w fun e w' => e = .returned (Lib.uintTuple 125 (par16 0 t.data.toList)) ∧ w' = Lib.bytesWorld w 5 t := by
  have hemp : t.toList.isEmpty = false := by
    rw [← decide_eq_emptyBytes]
    exact decide_eq_false (fun h => hne (by rw [h]; rfl))
  have hcv := Lib.run_convert_string_bytes (P := Tryz.prog) w 9 62 5 t (u := .string) Tryz.underlying9 Tryz.underlying62 Tryz.underlying5
  have hB : ∀ j, j < t.size → (Lib.bytesWorld w 5 t).cell? ⟨w.heap.size, j, none⟩ = some (.int .u8 (t.data.toList.getD j 0).toNat) := fun j hj => Lib.bytesWorld_cell w 5 t j hj
  obtain ⟨W1, hW1⟩ : ∃ W1, W1 = Lib.bytesWorld w 5 t := ⟨_, rfl⟩
  rw [← hW1] at hcv hB ⊢
  clear hW1
  obtain ⟨bs, hL⟩ : ∃ bs, bs = t.data.toList := ⟨_, rfl⟩
  have hLn : bs.length = t.size := by rw [hL, Lib.size_eq]
  rw [← hL] at hB ⊢
  clear hL
  have hmv : IntKind.u64.wrap (IntKind.u64.wrap 18446744073709551616 - 1) = 18446744073709551615 := by
    rw [IntKind.wrap_u64, IntKind.wrap_u64]
    decide
  go_enter Tryz.func77, Tryz.ntmps77
  go_wp2
  go_loop [12, 13, 101] (fun vu vn vi => ∃ (k acc : Nat) (a : Int), vu = .bool false ∧ vn = .int .u64 a ∧ vi = .int .i64 k ∧ k ≤ t.size ∧ Hid (a = (acc : Int) ∧ acc < 18446744073709551616 ∧ par16 0 bs = par16 acc (bs.drop k)))
    (fun _ _ vi => t.size - (intOf vi).toNat)
  case atStart => exact ⟨0, 0, 0, rfl, rfl, rfl, by omega, rfl, by omega, rfl⟩
  case round =>
    obtain ⟨k, acc, a, rfl, rfl, rfl, hk, hh⟩ := hrel
    obtain ⟨ha, hacc, hdec⟩ := hh.out
    clear hh
    have a0 : 0 ≤ a := by omega
    have a1 : a < 18446744073709551616 := by omega
    by_cases hkn : k < t.size
    · have hc := hB k hkn
      have hdrop : bs.drop k = bs[k]'(by omega) :: bs.drop (k + 1) := List.drop_eq_getElem_cons (by omega)
      have hget : bs.getD k 0 = bs[k]'(by omega) := by simp [List.getD, List.getElem?_eq_getElem (show k < bs.length by omega)]
      rw [hdrop] at hdec
      rw [hget] at hc
      generalize bs[k]'(by omega) = c at hc hdec
      have hc256 : c.toNat < 256 := c.toNat_lt
      have HL := hid (fun W => lower_any c.toNat hc256 W)
      obtain ⟨_, hl256, hD, h95⟩ := low_at hc256
      rw [par16] at hdec
      clear hB hdrop hget
      by_cases hdig : 48 ≤ c.toNat ∧ c.toNat ≤ 57
      · obtain ⟨hd0, hd1⟩ := hdig
        rw [if_pos ⟨hd0, hd1⟩] at hD
        rw [if_neg (by omega)] at hdec
        by_cases hcut : 1152921504606846976 ≤ acc
        · rw [if_pos hcut] at hdec
          have icut : 1152921504606846976 ≤ a := by omega
          clear hcut hacc ha hD HL hl256 h95
          go_wp2
          go_ret2
          exact ⟨rfl, rfl⟩
        · rw [if_neg hcut, hD] at hdec
          have HN : Hid (a * 16 + ((c.toNat : Int) - 48) = ((acc * 16 + (c.toNat - 48) : Nat) : Int) ∧ acc * 16 + (c.toNat - 48) < 18446744073709551616 ∧ par16 0 bs = par16 (acc * 16 + (c.toNat - 48)) (bs.drop (k + 1))) := hid ⟨by omega, by omega, hdec⟩
          have icut : a < 1152921504606846976 := by omega
          clear hcut hacc hdec ha hD HL hl256 h95
          go_wp2
          refine ⟨⟨k + 1, acc * 16 + (c.toNat - 48), a * 16 + ((c.toNat : Int) - 48), rfl, (by first | rfl | (congr 1; omega)), (by first | rfl | (congr 1; omega)), by omega, HN⟩, by simp [intOf]; omega⟩
      · rw [if_neg hdig] at hD
        obtain ⟨m, hm⟩ : ∃ m, lowN c.toNat = m := ⟨_, rfl⟩
        rw [hm] at hD HL hl256 h95
        by_cases hlet : 97 ≤ m ∧ m ≤ 122
        · obtain ⟨hm0, hm1⟩ := hlet
          rw [if_pos ⟨hm0, hm1⟩] at hD
          have n95 : ¬ c.toNat = 95 := fun e => by have := h95 e; omega
          have b95 : ((c.toNat : Int) == 95) = false := by simpa using (by omega : ¬ (c.toNat : Int) = 95)
          clear h95
          by_cases h16 : 16 ≤ m - 87
          · rw [if_pos (by omega)] at hdec
            have i16 : 103 ≤ m := by omega
            clear hacc ha hD
            go_wp2_with (go_at_call 84; refine (HL.out _).mono ?_; rintro e w' ⟨rfl, rfl⟩)
            all_goals go_ret2
            all_goals first | exact ⟨rfl, rfl⟩ | exact ⟨by rw [hdec]; rfl, rfl⟩
          · rw [if_neg (by omega)] at hdec
            have i16 : m < 103 := by omega
            by_cases hcut : 1152921504606846976 ≤ acc
            · rw [if_pos hcut] at hdec
              have icut : 1152921504606846976 ≤ a := by omega
              clear hcut hacc ha hD
              go_wp2_with (go_at_call 84; refine (HL.out _).mono ?_; rintro e w' ⟨rfl, rfl⟩)
              all_goals go_ret2
              all_goals first | exact ⟨rfl, rfl⟩ | exact ⟨by rw [hdec]; rfl, rfl⟩
            · rw [if_neg hcut, hD] at hdec
              have HN : Hid (a * 16 + ((m : Int) - 97 + 10) = ((acc * 16 + (m - 87) : Nat) : Int) ∧ acc * 16 + (m - 87) < 18446744073709551616 ∧ par16 0 bs = par16 (acc * 16 + (m - 87)) (bs.drop (k + 1))) := hid ⟨by omega, by omega, hdec⟩
              have icut : a < 1152921504606846976 := by omega
              have iov : a * 16 + ((m : Int) - 97 + 10) < 18446744073709551616 := by omega
              have iov2 : ¬ a * 16 + ((m : Int) - 97 + 10) < a * 16 := by omega
              clear hcut hacc hdec ha hD
              go_wp2_with (go_at_call 84; refine (HL.out _).mono ?_; rintro e w' ⟨rfl, rfl⟩)
              all_goals refine ⟨⟨k + 1, acc * 16 + (m - 87), a * 16 + ((m : Int) - 97 + 10), rfl, (by first | rfl | (congr 1; omega)), (by first | rfl | (congr 1; omega)), by omega, HN⟩, by simp [intOf]; omega⟩
        · rw [if_neg hlet] at hD
          rw [if_pos (by omega)] at hdec
          by_cases n95 : c.toNat = 95
          · obtain rfl := h95 n95
            generalize c.toNat = x at *
            subst n95
            have HL95 := hid (fun W => (lower_any 95 (by decide) W : Calls Tryz.prog 84 #[.int .u8 95] W fun e w' => e = .returned (.int .u8 127) ∧ w' = W))
            clear hacc ha hD h95 HL
            go_wp2_with (go_at_call 84; refine (HL95.out _).mono ?_; rintro e w' ⟨rfl, rfl⟩)
            all_goals go_ret2
            all_goals first | exact ⟨rfl, rfl⟩ | exact ⟨by rw [hdec]; rfl, rfl⟩
          · have b95 : ((c.toNat : Int) == 95) = false := by simpa using (by omega : ¬ (c.toNat : Int) = 95)
            clear hacc ha hD h95
            go_wp2_with (go_at_call 84; refine (HL.out _).mono ?_; rintro e w' ⟨rfl, rfl⟩)
            all_goals go_ret2
            all_goals first | exact ⟨rfl, rfl⟩ | exact ⟨by rw [hdec]; rfl, rfl⟩
    · have hkk : k = t.size := by omega
      subst hkk
      rw [List.drop_eq_nil_of_le (by omega)] at hdec
      have hF : par16 0 bs = .ok acc := hdec
      have HF := hid hF
      subst ha
      clear hacc hF a0 a1 hdec
      go_wp2
      go_ret2
      exact ⟨by rw [HF.out]; rfl, rfl⟩
set_option maxHeartbeats 4000000 in
set_option maxRecDepth 100000 in
theorem pu16_empty (w : World) :
    Calls Tryz.prog 77 #[.string ⟨#[]⟩, .int .i64 16, .int .i64 64] w fun e w' => e = .returned (.tuple #[.int .u64 0, .iface 125 (.int .i64 2)]) ∧ w' = w := by
  go_enter Tryz.func77, Tryz.ntmps77
  go_wp2
  go_ret2
  exact ⟨rfl, rfl⟩
end Go.Proofs.YtlilmidffcmkjaaGreatDoor
/- strconv.ParseUint at base 10 and 16, 64 bits: a number, or an error that is not nil (contracts). -/
namespace Go.Proofs.YtlilmidffcmkjaaGreatDoor
open Go.RowKit
set_option linter.unusedVariables false
set_option linter.unusedSimpArgs false
/-- The library's two errors, in memory. -/
def ErrsAt (w : World) : Prop := ∃ a b, w.cell? ⟨6, 0, none⟩ = some a ∧ (a = .nilIface ∨ ∃ te pe, a = .iface te pe) ∧ w.cell? ⟨7, 0, none⟩ = some b ∧ (b = .nilIface ∨ ∃ te pe, b = .iface te pe)
theorem ErrsAt.bw {w w' : World} (h : ErrsAt w) (hb : Bw w w') : ErrsAt w' := by
  obtain ⟨a, b, h1, h2, h3, h4⟩ := h
  exact ⟨a, b, hb.cell h1, h2, hb.cell h3, h4⟩
/-- A number, or an error. -/
def PuP (r : Lib.NumEnd Nat) (w : World) (e : Ending) (w' : World) : Prop :=
  Bw w w' ∧ match r with
    | .ok n => e = .returned (.tuple #[.int .u64 (n : Nat), .nilIface])
    | _ => ∃ m t p, e = .returned (.tuple #[.int .u64 (m : Nat), .iface t p])
theorem pu10_any (s : ByteArray) (hs : s.size ≤ 1000000) (w : World) (hE : ErrsAt w) :
    Calls Tryz.prog 67 #[.string s, .int .i64 10, .int .i64 64] w (PuP (Lib.parseUintB 64 s.data.toList) w) := by
  obtain ⟨a, b, h1, h2, h3, h4⟩ := hE
  rcases hr : Lib.parseUintB 64 s.data.toList with n | _ | _
  · refine (Any.strconv_ParseUint_10_at64_ok laysPu14 s (by omega) n hr w).mono ?_
    rintro e w' ⟨he, hw⟩
    refine ⟨?_, he⟩
    rcases hw with rfl | rfl
    · exact Bw.refl _
    · exact Lib.bytesWorld_below _ _ _
  · refine (Any.strconv_ParseUint_10_at64_syntax laysPu14 s (by omega) hr a w h1 h2).mono ?_
    rintro e w' ⟨N, he, _, _, hb⟩
    exact ⟨hb, 0, _, _, he⟩
  · refine (Any.strconv_ParseUint_10_at64_range laysPu14 s (by omega) hr b w h3 h4).mono ?_
    rintro e w' ⟨N, he, _, _, hb⟩
    exact ⟨hb, 18446744073709551615, _, _, he⟩
/-- What base 16 gives. -/
def puH (l : List UInt8) : Lib.NumEnd Nat := if l = [] then synE else par16 0 l
theorem pu16_i (s : ByteArray) (hs : s.size ≤ 1000000) (w : World) :
    Calls Tryz.prog 77 #[.string s, .int .i64 16, .int .i64 64] w fun e w' => e = .returned (Lib.uintTuple 125 (puH s.data.toList)) ∧ Bw w w' := by
  unfold puH
  by_cases h0 : s.size = 0
  · obtain rfl := toList_nil h0
    exact (pu16_empty w).mono fun e w' ⟨h1, h2⟩ => ⟨h1, h2 ▸ Bw.refl _⟩
  · have hne : s.data.toList ≠ [] := fun h => h0 (by rw [Lib.size_eq, h]; rfl)
    rw [if_neg hne]
    exact (pu16_in s h0 (by omega) w).mono fun e w' ⟨h1, h2⟩ => ⟨h1, h2 ▸ Lib.bytesWorld_below _ _ _⟩
set_option maxHeartbeats 4000000 in
set_option maxRecDepth 100000 in
theorem pu16_any (s : ByteArray) (hs : s.size ≤ 1000000) (w : World) (hE : ErrsAt w) :
    Calls Tryz.prog 67 #[.string s, .int .i64 16, .int .i64 64] w (PuP (puH s.data.toList) w) := by
  have HI := hid (pu16_i s hs w)
  have HE := hid hE
  clear hE
  rcases hr : puH s.data.toList with n | _ | _
  · rw [hr] at HI
    have HI2 : Hid (Calls Tryz.prog 77 #[.string s, .int .i64 16, .int .i64 64] w fun e w' => e = .returned (.tuple #[.int .u64 (n : Nat), .nilIface]) ∧ Bw w w') := HI
    clear HI hr
    go_enter Tryz.func67, Tryz.ntmps67
    go_wp2_with (go_at_call 77; refine HI2.out.mono ?_; rintro e W1 ⟨rfl, hb⟩; have HB := hid hb; clear hb)
    go_wp2
    go_ret2
    exact ⟨HB.out, rfl⟩
  · rw [hr] at HI
    have HI2 : Hid (Calls Tryz.prog 77 #[.string s, .int .i64 16, .int .i64 64] w fun e w' => e = .returned (.tuple #[.int .u64 0, .iface 125 (.int .i64 2)]) ∧ Bw w w') := HI
    clear HI hr
    go_enter Tryz.func67, Tryz.ntmps67
    go_wp2_with (go_at_call 77; refine HI2.out.mono ?_)
    rintro e W1 ⟨rfl, hb⟩
    have HB := hid hb
    obtain ⟨a, b, h1, h2, h3, h4⟩ := HE.out.bw hb
    have HT := hid (AnyPu.strconv_toError_syntax { laysPu14 with } ⟨#[80, 97, 114, 115, 101, 85, 105, 110, 116]⟩ s 16 64 a W1 (by omega) h1 h2)
    clear hb h1 h2 h3 h4
    go_wp2_with (go_at_call 78; refine HT.out.mono ?_)
    rintro e W2 ⟨N, rfl, g1, g2, g3⟩
    have HB2 := hid (HB.out.trans g3)
    clear g1 g2 g3
    go_wp2
    go_ret2
    exact ⟨HB2.out, 0, _, _, rfl⟩
  · rw [hr] at HI
    have HI2 : Hid (Calls Tryz.prog 77 #[.string s, .int .i64 16, .int .i64 64] w fun e w' => e = .returned (.tuple #[.int .u64 18446744073709551615, .iface 125 (.int .i64 1)]) ∧ Bw w w') := HI
    clear HI hr
    go_enter Tryz.func67, Tryz.ntmps67
    go_wp2_with (go_at_call 77; refine HI2.out.mono ?_)
    rintro e W1 ⟨rfl, hb⟩
    have HB := hid hb
    obtain ⟨a, b, h1, h2, h3, h4⟩ := HE.out.bw hb
    have HT := hid (AnyPu.strconv_toError_range { laysPu14 with } ⟨#[80, 97, 114, 115, 101, 85, 105, 110, 116]⟩ s 16 64 b W1 (by omega) h3 h4)
    clear hb h1 h2 h3 h4
    go_wp2_with (go_at_call 78; refine HT.out.mono ?_)
    rintro e W2 ⟨N, rfl, g1, g2, g3⟩
    have HB2 := hid (HB.out.trans g3)
    clear g1 g2 g3
    go_wp2
    go_ret2
    exact ⟨HB2.out, 18446744073709551615, _, _, rfl⟩
end Go.Proofs.YtlilmidffcmkjaaGreatDoor

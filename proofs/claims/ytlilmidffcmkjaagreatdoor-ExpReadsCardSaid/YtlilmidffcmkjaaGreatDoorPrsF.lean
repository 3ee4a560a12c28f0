/- Numbers of a text (contract of the function). -/
import Derived.Test.YtlilmidffcmkjaaGreatDoorPuX
import Derived.Test.YtlilmidffcmkjaaGreatDoorPrsD
namespace Go.Proofs.YtlilmidffcmkjaaGreatDoor
open Go.RowKit
set_option linter.unusedVariables false
set_option linter.unusedSimpArgs false
theorem ten_noup : ∀ (l : List UInt8) (M a n : Nat), Lib.parseUintM M a l = .ok n → hasUp l = false
  | [], _, _, _, _ => rfl
  | c :: r, M, a, n, h => by
    rw [Lib.parseUintM] at h
    split at h
    · rename_i hc
      split at h
      · cases h
      · split at h
        · cases h
        · rw [up_cons, ten_noup r _ _ _ h, up_has, Bool.or_false, Bool.and_eq_false_iff]
          left
          exact decide_eq_false (by omega)
    · cases h
/-- What number answers. -/
def NumP (d : ByteArray) (w : World) (e : Ending) (w' : World) : Prop := Bw w w' ∧ e = (match numW d with | some n => .returned (.int .u64 (n : Nat)) | none => pan 8)
set_option maxRecDepth 100000 in
set_option maxHeartbeats 8000000 in
theorem number_any (d : ByteArray) (hd : d.size ≤ 20000) (has : ∀ (j : Nat) b, d.data.toList[j]? = some b → b.toNat < 128) (w : World) (hE : ErrsAt w) :
    Calls Tryz.prog 52 #[.string d] w (NumP d w) := by
  have HE := hid hE
  clear hE
  have hl : d.data.toList.length = d.size := by simp
  have HD := hid hd
  cases hp : Lib.hasPrefix d.data.toList [48, 120] with
  | true =>
    obtain ⟨dg, hdg⟩ : ∃ dg : ByteArray, (⟨(Lib.trimPrefix d.data.toList [48, 120]).toArray⟩ : ByteArray) = dg := ⟨_, rfl⟩
    have hdl : dg.data.toList = d.data.toList.drop 2 := by rw [← hdg]; simp [Lib.trimPrefix, hp]
    have hds : dg.size ≤ 20000 := by have : dg.size = dg.data.toList.length := by simp
                                     rw [this, hdl, List.length_drop]; omega
    have HCP : Hid (∀ W, Calls Tryz.prog 36 #[.string d, .string ⟨#[48, 120]⟩] W fun e w' => e = .returned (.tuple #[.string dg, .bool true]) ∧ w' = W) := hid (fun W => by
      have h := lib_CutPrefix d ⟨#[48, 120]⟩ W
      rw [show (⟨#[48, 120]⟩ : ByteArray).data.toList = [48, 120] from rfl, hdg, hp] at h
      exact h)
    have HPU := hid (fun W (h : ErrsAt W) => pu16_any dg (by omega) W h)
    have HCA := hid (fun W => lib_ContainsAny dg W (by omega) (by intro j b h; rw [hdl, List.getElem?_drop] at h; exact has _ _ h))
    have hnw : numW d = if (d.data.toList.drop 2) = [] then none else mostO (valL 16 0 (d.data.toList.drop 2)) := by unfold numW; rw [if_pos hp]
    have HN := hid (show numW d = if Lib.containsAny dg.data.toList [65, 66, 67, 68, 69, 70] then none else numO (puH dg.data.toList) from by
      rw [hnw, hdl]
      unfold puH
      by_cases h0 : d.data.toList.drop 2 = []
      · rw [if_pos h0, if_pos h0]
        split <;> rfl
      · rw [if_neg h0, if_neg h0, ← parse_hex]
        rfl)
    generalize puH dg.data.toList = r at *
    generalize Lib.containsAny dg.data.toList [65, 66, 67, 68, 69, 70] = u at *
    clear hdg hdl hds hnw has hl hd
    have HB := hid (fun W (h : Bw w W) => HE.out.bw h)
    rcases hr : r with n | _ | _
    · rw [hr] at HPU HN
      have HPU : Hid (∀ W, ErrsAt W → Calls Tryz.prog 67 #[.string dg, .int .i64 16, .int .i64 64] W fun e w' => Bw W w' ∧ e = .returned (.tuple #[.int .u64 (n : Nat), .nilIface])) := HPU
      by_cases hn : n ≤ mostN
      · have hn1 : ((n : Nat) : Int) ≤ 4611686018427387904 := by rw [mostN_val] at hn; omega
        cases hu : u with
        | true =>
          rw [hu] at HCA HN
          have HN2 := hid (show numW d = none from HN.out)
          clear hu hr hn HN
          clear HD hp
          go_enter Tryz.func52, Tryz.ntmps52
          go_wp2_with (go_at_call 36; refine (HCP.out _).mono ?_; rintro e w1 ⟨rfl, rfl⟩)
          go_wp2_with (go_at_call 67; refine (HPU.out _ HE.out).mono ?_)
          rintro e w2 ⟨hb2, rfl⟩
          have HB2 := hid hb2
          clear hb2
          go_wp2_with fail
          refine (demand_ok _).mono ?_
          rintro e w3 ⟨rfl, rfl⟩
          go_wp2_with (go_at_call 68; refine (HCA.out _).mono ?_; rintro e w4 ⟨rfl, hb4⟩; have HB4 := hid hb4; clear hb4)
          go_wp2_with fail
          refine (demand_bad _).mono ?_
          rintro e w5 ⟨rfl, rfl⟩
          exact ⟨rfl, HB2.out.trans HB4.out, by rw [HN2.out]⟩
        | false =>
          rw [hu] at HCA HN
          have HN2 := hid (show numW d = some n from HN.out.trans (if_pos hn))
          clear hu hr hn HN
          clear HD hp
          go_enter Tryz.func52, Tryz.ntmps52
          go_wp2_with (go_at_call 36; refine (HCP.out _).mono ?_; rintro e w1 ⟨rfl, rfl⟩)
          go_wp2_with (go_at_call 67; refine (HPU.out _ HE.out).mono ?_)
          rintro e w2 ⟨hb2, rfl⟩
          have HB2 := hid hb2
          clear hb2
          go_wp2_with fail
          refine (demand_ok _).mono ?_
          rintro e w3 ⟨rfl, rfl⟩
          go_wp2_with (go_at_call 68; refine (HCA.out _).mono ?_; rintro e w4 ⟨rfl, hb4⟩; have HB4 := hid hb4; clear hb4)
          go_wp2_with fail
          refine (demand_ok _).mono ?_
          rintro e w5 ⟨rfl, rfl⟩
          go_wp2
          go_returns
          exact ⟨HB2.out.trans HB4.out, by rw [HN2.out]; rfl⟩
      · have hn1 : ¬ ((n : Nat) : Int) ≤ 4611686018427387904 := by rw [mostN_val] at hn; omega
        have hn2 : decide (((n : Nat) : Int) ≤ 4611686018427387904) = false := decide_eq_false hn1
        clear hn1
        have HN2 := hid (show numW d = none from by have h := HN.out; cases u with | true => exact h | false => exact h.trans (if_neg hn))
        clear hr hn HN
        clear HD hp
        go_enter Tryz.func52, Tryz.ntmps52
        go_wp2_with (go_at_call 36; refine (HCP.out _).mono ?_; rintro e w1 ⟨rfl, rfl⟩)
        go_wp2_with (go_at_call 67; refine (HPU.out _ HE.out).mono ?_)
        rintro e w2 ⟨hb2, rfl⟩
        have HB2 := hid hb2
        clear hb2
        go_wp2_with fail
        refine (demand_bad _).mono ?_
        rintro e w5 ⟨rfl, rfl⟩
        exact ⟨rfl, HB2.out, by rw [HN2.out]⟩
    · rw [hr] at HPU HN
      have HPU : Hid (∀ W, ErrsAt W → Calls Tryz.prog 67 #[.string dg, .int .i64 16, .int .i64 64] W fun e w' => Bw W w' ∧ ∃ m t p, e = .returned (.tuple #[.int .u64 (m : Nat), .iface t p])) := HPU
      have HN2 := hid (show numW d = none from by have h := HN.out; cases u with | true => exact h | false => exact h)
      clear hr HN
      clear HD hp
      go_enter Tryz.func52, Tryz.ntmps52
      go_wp2_with (go_at_call 36; refine (HCP.out _).mono ?_; rintro e w1 ⟨rfl, rfl⟩)
      go_wp2_with (go_at_call 67; refine (HPU.out _ HE.out).mono ?_)
      rintro e w2 ⟨hb2, m, tt, pp, rfl⟩
      have HB2 := hid hb2
      clear hb2
      go_wp2_with fail
      refine (demand_bad _).mono ?_
      rintro e w5 ⟨rfl, rfl⟩
      exact ⟨rfl, HB2.out, by rw [HN2.out]⟩
    · rw [hr] at HPU HN
      have HPU : Hid (∀ W, ErrsAt W → Calls Tryz.prog 67 #[.string dg, .int .i64 16, .int .i64 64] W fun e w' => Bw W w' ∧ ∃ m t p, e = .returned (.tuple #[.int .u64 (m : Nat), .iface t p])) := HPU
      have HN2 := hid (show numW d = none from by have h := HN.out; cases u with | true => exact h | false => exact h)
      clear hr HN
      clear HD hp
      go_enter Tryz.func52, Tryz.ntmps52
      go_wp2_with (go_at_call 36; refine (HCP.out _).mono ?_; rintro e w1 ⟨rfl, rfl⟩)
      go_wp2_with (go_at_call 67; refine (HPU.out _ HE.out).mono ?_)
      rintro e w2 ⟨hb2, m, tt, pp, rfl⟩
      have HB2 := hid hb2
      clear hb2
      go_wp2_with fail
      refine (demand_bad _).mono ?_
      rintro e w5 ⟨rfl, rfl⟩
      exact ⟨rfl, HB2.out, by rw [HN2.out]⟩
  | false =>
    have HCP : Hid (∀ W, Calls Tryz.prog 36 #[.string d, .string ⟨#[48, 120]⟩] W fun e w' => e = .returned (.tuple #[.string d, .bool false]) ∧ w' = W) := hid (fun W => by
      have h := lib_CutPrefix d ⟨#[48, 120]⟩ W
      rw [show (⟨#[48, 120]⟩ : ByteArray).data.toList = [48, 120] from rfl, hp] at h
      have e : (⟨(Lib.trimPrefix d.data.toList [48, 120]).toArray⟩ : ByteArray) = d := by unfold Lib.trimPrefix; rw [hp]; rfl
      rw [e] at h
      exact h)
    obtain ⟨dg, hdg⟩ : ∃ dg, d = dg := ⟨_, rfl⟩
    have HPU : Hid (∀ W, ErrsAt W → Calls Tryz.prog 67 #[.string dg, .int .i64 10, .int .i64 64] W (PuP (Lib.parseUintB 64 dg.data.toList) W)) := hid (fun W h => pu10_any dg (by rw [← hdg]; omega) W h)
    have HCA := hid (fun W => lib_ContainsAny dg W (by rw [← hdg]; omega) (by rw [← hdg]; exact has))
    have hnw : numW d = if d.data.toList = [] then none else mostO (valL 10 0 d.data.toList) := by unfold numW; rw [if_neg (by rw [hp]; exact Bool.false_ne_true)]
    have HN := hid (show numW d = if Lib.containsAny dg.data.toList [65, 66, 67, 68, 69, 70] then none else numO (Lib.parseUintB 64 dg.data.toList) from by
      rw [hnw, ← hdg]
      unfold Lib.parseUintB
      by_cases h0 : d.data.toList = []
      · rw [if_pos h0, if_pos h0]
        split <;> rfl
      · rw [if_neg h0, if_neg h0, u64m, ← parse_ten]
        rcases hx : Lib.parseUintM 18446744073709551615 0 d.data.toList with n | _ | _
        · rw [show Lib.containsAny d.data.toList [65, 66, 67, 68, 69, 70] = false from ten_noup _ _ _ _ hx]; rfl
        · split <;> rfl
        · split <;> rfl)
    rw [show Calls Tryz.prog 52 #[.string d] w (NumP d w) = Calls Tryz.prog 52 #[.string dg] w (NumP d w) from by rw [hdg]]
    rw [show (.string d : Value) = .string dg from by rw [hdg]] at HCP
    generalize Lib.parseUintB 64 dg.data.toList = r at *
    generalize Lib.containsAny dg.data.toList [65, 66, 67, 68, 69, 70] = u at *
    clear hdg hnw has hl hd
    have HB := hid (fun W (h : Bw w W) => HE.out.bw h)
    rcases hr : r with n | _ | _
    · rw [hr] at HPU HN
      have HPU : Hid (∀ W, ErrsAt W → Calls Tryz.prog 67 #[.string dg, .int .i64 10, .int .i64 64] W fun e w' => Bw W w' ∧ e = .returned (.tuple #[.int .u64 (n : Nat), .nilIface])) := HPU
      by_cases hn : n ≤ mostN
      · have hn1 : ((n : Nat) : Int) ≤ 4611686018427387904 := by rw [mostN_val] at hn; omega
        cases hu : u with
        | true =>
          rw [hu] at HCA HN
          have HN2 := hid (show numW d = none from HN.out)
          clear hu hr hn HN
          clear HD hp
          go_enter Tryz.func52, Tryz.ntmps52
          go_wp2_with (go_at_call 36; refine (HCP.out _).mono ?_; rintro e w1 ⟨rfl, rfl⟩)
          go_wp2_with (go_at_call 67; refine (HPU.out _ HE.out).mono ?_)
          rintro e w2 ⟨hb2, rfl⟩
          have HB2 := hid hb2
          clear hb2
          go_wp2_with fail
          refine (demand_ok _).mono ?_
          rintro e w3 ⟨rfl, rfl⟩
          go_wp2_with (go_at_call 68; refine (HCA.out _).mono ?_; rintro e w4 ⟨rfl, hb4⟩; have HB4 := hid hb4; clear hb4)
          go_wp2_with fail
          refine (demand_bad _).mono ?_
          rintro e w5 ⟨rfl, rfl⟩
          exact ⟨rfl, HB2.out.trans HB4.out, by rw [HN2.out]⟩
        | false =>
          rw [hu] at HCA HN
          have HN2 := hid (show numW d = some n from HN.out.trans (if_pos hn))
          clear hu hr hn HN
          clear HD hp
          go_enter Tryz.func52, Tryz.ntmps52
          go_wp2_with (go_at_call 36; refine (HCP.out _).mono ?_; rintro e w1 ⟨rfl, rfl⟩)
          go_wp2_with (go_at_call 67; refine (HPU.out _ HE.out).mono ?_)
          rintro e w2 ⟨hb2, rfl⟩
          have HB2 := hid hb2
          clear hb2
          go_wp2_with fail
          refine (demand_ok _).mono ?_
          rintro e w3 ⟨rfl, rfl⟩
          go_wp2_with (go_at_call 68; refine (HCA.out _).mono ?_; rintro e w4 ⟨rfl, hb4⟩; have HB4 := hid hb4; clear hb4)
          go_wp2_with fail
          refine (demand_ok _).mono ?_
          rintro e w5 ⟨rfl, rfl⟩
          go_wp2
          go_returns
          exact ⟨HB2.out.trans HB4.out, by rw [HN2.out]; rfl⟩
      · have hn1 : ¬ ((n : Nat) : Int) ≤ 4611686018427387904 := by rw [mostN_val] at hn; omega
        have hn2 : decide (((n : Nat) : Int) ≤ 4611686018427387904) = false := decide_eq_false hn1
        clear hn1
        have HN2 := hid (show numW d = none from by have h := HN.out; cases u with | true => exact h | false => exact h.trans (if_neg hn))
        clear hr hn HN
        clear HD hp
        go_enter Tryz.func52, Tryz.ntmps52
        go_wp2_with (go_at_call 36; refine (HCP.out _).mono ?_; rintro e w1 ⟨rfl, rfl⟩)
        go_wp2_with (go_at_call 67; refine (HPU.out _ HE.out).mono ?_)
        rintro e w2 ⟨hb2, rfl⟩
        have HB2 := hid hb2
        clear hb2
        go_wp2_with fail
        refine (demand_bad _).mono ?_
        rintro e w5 ⟨rfl, rfl⟩
        exact ⟨rfl, HB2.out, by rw [HN2.out]⟩
    · rw [hr] at HPU HN
      have HPU : Hid (∀ W, ErrsAt W → Calls Tryz.prog 67 #[.string dg, .int .i64 10, .int .i64 64] W fun e w' => Bw W w' ∧ ∃ m t p, e = .returned (.tuple #[.int .u64 (m : Nat), .iface t p])) := HPU
      have HN2 := hid (show numW d = none from by have h := HN.out; cases u with | true => exact h | false => exact h)
      clear hr HN
      clear HD hp
      go_enter Tryz.func52, Tryz.ntmps52
      go_wp2_with (go_at_call 36; refine (HCP.out _).mono ?_; rintro e w1 ⟨rfl, rfl⟩)
      go_wp2_with (go_at_call 67; refine (HPU.out _ HE.out).mono ?_)
      rintro e w2 ⟨hb2, m, tt, pp, rfl⟩
      have HB2 := hid hb2
      clear hb2
      go_wp2_with fail
      refine (demand_bad _).mono ?_
      rintro e w5 ⟨rfl, rfl⟩
      exact ⟨rfl, HB2.out, by rw [HN2.out]⟩
    · rw [hr] at HPU HN
      have HPU : Hid (∀ W, ErrsAt W → Calls Tryz.prog 67 #[.string dg, .int .i64 10, .int .i64 64] W fun e w' => Bw W w' ∧ ∃ m t p, e = .returned (.tuple #[.int .u64 (m : Nat), .iface t p])) := HPU
      have HN2 := hid (show numW d = none from by have h := HN.out; cases u with | true => exact h | false => exact h)
      clear hr HN
      clear HD hp
      go_enter Tryz.func52, Tryz.ntmps52
      go_wp2_with (go_at_call 36; refine (HCP.out _).mono ?_; rintro e w1 ⟨rfl, rfl⟩)
      go_wp2_with (go_at_call 67; refine (HPU.out _ HE.out).mono ?_)
      rintro e w2 ⟨hb2, m, tt, pp, rfl⟩
      have HB2 := hid hb2
      clear hb2
      go_wp2_with fail
      refine (demand_bad _).mono ?_
      rintro e w5 ⟨rfl, rfl⟩
      exact ⟨rfl, HB2.out, by rw [HN2.out]⟩
end Go.Proofs.YtlilmidffcmkjaaGreatDoor

/- InflateStored returns true for every text and every int, and changes nothing that was there; no condition but that the listed tables hold what the program's text lays. -/
import Derived.Test.YtaihojjocmdgbaaDoorStV
import Derived.Test.YtaihojjocmdgbaaDoorInfF
import Derived.ShutString
import Derived.ChangeOld
import Derived.SizedLaws
namespace Go.Proofs.YtaihojjocmdgbaaDoor.inflateStored
open Go.ChangeShapes Go.WideShapes Go.ChangeAt Go.WideMaps Go.WideElems Go.RowKit
open Go.ChangeMaps (open_string shut_string)
set_option linter.unusedVariables false
theorem str_le {s : ByteArray} (h : s.data.toList.length ≤ reachBytes) : s.size ≤ 140737488351232 := by
  have h4 : s.size = s.data.toList.length := by simp
  have h5 : reachBytes = 140737488351232 := by decide
  omega
set_option maxRecDepth 100000 in
set_option maxHeartbeats 8000000 in
theorem big1 (s : ByteArray) (x : Int) (h : ¬ s.size ≤ 3000) (w : World) (ht : Tabs w.heap.size w) :
    Calls Tryd.prog 7 #[.string s, .int .i64 x] w fun e w' => e = .returned (.bool true) ∧ Bw w w' := by
  have t0 : decide (3000 < s.size) = true := decide_eq_true (by omega)
  have t1 : decide ((3000 : Int) < s.size) = true := decide_eq_true (by omega)
  have HT := hid ht
  clear ht
  clear h
  go_enter Tryd.func7, Tryd.ntmps7
  go_wp2_with fail
  refine (live_any w HT.out).mono ?_
  rintro e wl ⟨rfl, hbl⟩
  have HBL := hid hbl
  clear hbl
  go_wp2
  go_returns
  exact ⟨rfl, HBL.out⟩
set_option maxRecDepth 100000 in
set_option maxHeartbeats 8000000 in
theorem big2 (s : ByteArray) (x : Int) (h : s.size ≤ 3000) (hx : x < 1) (w : World) (ht : Tabs w.heap.size w) :
    Calls Tryd.prog 7 #[.string s, .int .i64 x] w fun e w' => e = .returned (.bool true) ∧ Bw w w' := by
  have t0 : decide (3000 < s.size) = false := decide_eq_false (by omega)
  have t1 : decide ((3000 : Int) < s.size) = false := decide_eq_false (by omega)
  have t2 : decide (x < 1) = true := decide_eq_true hx
  have HT := hid ht
  clear ht
  clear h hx
  go_enter Tryd.func7, Tryd.ntmps7
  go_wp2_with fail
  refine (live_any w HT.out).mono ?_
  rintro e wl ⟨rfl, hbl⟩
  have HBL := hid hbl
  clear hbl
  go_wp2
  go_returns
  exact ⟨rfl, HBL.out⟩
set_option maxRecDepth 100000 in
set_option maxHeartbeats 8000000 in
theorem big3 (s : ByteArray) (x : Int) (h : s.size ≤ 3000) (hx : ¬ x < 1) (hx2 : 65535 < x) (w : World) (ht : Tabs w.heap.size w) :
    Calls Tryd.prog 7 #[.string s, .int .i64 x] w fun e w' => e = .returned (.bool true) ∧ Bw w w' := by
  have t0 : decide (3000 < s.size) = false := decide_eq_false (by omega)
  have t1 : decide ((3000 : Int) < s.size) = false := decide_eq_false (by omega)
  have t2 : decide (x < 1) = false := decide_eq_false hx
  have t3 : decide (65535 < x) = true := decide_eq_true hx2
  have HT := hid ht
  clear ht
  clear h hx hx2
  go_enter Tryd.func7, Tryd.ntmps7
  go_wp2_with fail
  refine (live_any w HT.out).mono ?_
  rintro e wl ⟨rfl, hbl⟩
  have HBL := hid hbl
  clear hbl
  go_wp2
  go_returns
  exact ⟨rfl, HBL.out⟩
/-- How a round stands. -/
def StIn (w : World) (s : ByteArray) (g : Nat) (at_ : Nat) (wr : World) : Prop :=
  ∃ (F : Nat → Prop) (bl : List UInt8), bl.length ≤ 6 * at_ ∧ ZrF F wr g (8 * bl.length) (leN bl) ∧ Read s.size bl (s.data.toList.take at_) false ∧ Keeps (fun i => w.heap.size ≤ i) w wr ∧ (∀ i, F i → w.heap.size ≤ i)
theorem zp_next {F : Nat → Prop} {g k N : Nat} {w wr w2 : World} (h : ZPost F g k N wr w2) (hk : Keeps (fun i => w.heap.size ≤ i) w wr) (hF : ∀ i, F i → w.heap.size ≤ i) : ∃ F', ZrF F' w2 g k N ∧ Keeps (fun i => w.heap.size ≤ i) w w2 ∧ ∀ i, F' i → w.heap.size ≤ i := by
  obtain ⟨F', h1, h2, h3⟩ := h
  have hz := hk.size
  exact ⟨F', h1, hk.trans (h2.mono fun i _ hf => hF i hf), fun i hi => by rcases h3 i hi with h | h; exact hF i h; omega⟩
theorem keeps_bw {w wr : World} (h : Keeps (fun i => w.heap.size ≤ i) w wr) : Bw w wr := ⟨h.os, h.tape, h.output, h.size, fun i hi => h.block i hi (by omega)⟩
set_option maxRecDepth 100000 in
set_option maxHeartbeats 8000000 in
theorem small (s : ByteArray) (z : Nat) (h : s.size ≤ 3000) (hz1 : 1 ≤ z) (hz2 : z ≤ 65535) (w : World) (ht : Tabs w.heap.size w) :
    Calls Tryd.prog 7 #[.string s, .int .i64 z] w fun e w' => e = .returned (.bool true) ∧ Bw w w' := by
  have t0 : decide (3000 < s.size) = false := decide_eq_false (by omega)
  have t1 : decide ((3000 : Int) < s.size) = false := decide_eq_false (by omega)
  have t2 : decide (((z : Nat) : Int) < 1) = false := decide_eq_false (by omega)
  have t3 : decide (65535 < ((z : Nat) : Int)) = false := decide_eq_false (by omega)
  have HT := hid ht
  have HN := hid (Has.new w 32 #[.slice none 0 0])
  have HW := hid (show Bw w (w.alloc (.cells #[.slice none 0 0] 32)) from (Bw.refl w).alloc _)
  clear ht
  go_enter Tryd.func7, Tryd.ntmps7
  go_wp2_with fail
  have HST := hid (show StIn w s w.heap.size 0 (w.alloc (.cells #[.slice none 0 0] 32)) from ⟨(· = w.heap.size), [], Nat.zero_le _, ZrF.fresh HN.out, Read.nil _, Keeps.of_bw HW.out, fun i hi => by omega⟩)
  generalize w.alloc (.cells #[.slice none 0 0] 32) = W1 at *
  obtain ⟨g, hg⟩ : ∃ g, w.heap.size = g := ⟨_, rfl⟩
  have HG := hid hg
  rw [hg] at HST ⊢
  clear hg t0 t1 t2 t3
  go_loopw [6, 7, 8] (fun a n l wr => ∃ k : Nat, k ≤ s.size ∧ a = .int .i64 k ∧ StIn w s g k wr) (fun a _ _ _ => s.size - (intOf a).toNat)
  case atStart => exact ⟨0, Nat.zero_le _, rfl, HST.out⟩
  case round =>
    rename World => wr
    obtain ⟨k, hk, rfl, F, bl, hbl, hz, hrd, hkp, hF⟩ := hrel
    obtain ⟨d, hd⟩ : ∃ d, s.size - k = d := ⟨_, rfl⟩
    have e1 : ((s.size : Nat) : Int) - k = (d : Nat) := by omega
    have HZ := hid hz
    have HRD := hid hrd
    have HKP := hid hkp
    have HF := hid hF
    clear hz hrd hkp hF
    by_cases hl : d ≤ z
    · have m1 : min (z : Int) (d : Nat) = (d : Nat) := by omega
      have m2 : (d : Int) ≤ z := by omega
      have t4 : (((k : Nat) : Int) + d == s.size) = true := beq_iff_eq.2 (by omega)
      obtain ⟨c, hc⟩ : ∃ c, cut s k d = c := ⟨_, rfl⟩
      have hcl : c.length = d := by rw [← hc]; exact cut_len s k d (by omega)
      have hct : s.data.toList.take k ++ c = s.data.toList.take (k + d) := by rw [← hc, cut_list, List.take_add]
      have hcx : (s.extract k (k + d)).data.toList = c := by rw [← hc]; rfl
      have hcz : (s.extract k (k + d)).size = d := by have h9 := cut_len s k d (by omega); unfold cut at h9; rw [Array.length_toList] at h9; exact h9
      have HRE := hid (HRD.out.more c true (by rw [hcl]; omega) (by rw [hcl, List.length_take]; omega))
      rw [hct] at HRE
      have HLY := hid (lay_blk bl c true (by rw [hcl]; omega))
      rw [hcl, show lb1 true = 1 from rfl] at HLY
      have HBL := hid (show (bl ++ blkB true c).length = bl.length + 5 + d by rw [List.length_append, blkB_len, hcl]; omega)
      have HCX := hid hcx
      have HCZ := hid hcz
      obtain ⟨j, hj⟩ : ∃ j, 65535 - d = j := ⟨_, rfl⟩
      have e2 : (65535 : Int) - (d : Nat) = (j : Nat) := by omega
      rw [hj] at HLY
      have hj9 : j ≤ 65535 := by omega
      have s1 : (0 : Int) ≤ (k : Nat) + (d : Nat) := by omega
      have s2 : ((k : Nat) : Int) + (d : Nat) ≤ s.size := by omega
      have s3 : (((k : Nat) : Int) + (d : Nat)).toNat = k + d := by omega
      have s4 : ((k : Nat) : Int) ≤ (k : Nat) + (d : Nat) := by omega
      have hn9 : d ≤ 65535 := by omega
      have hkn : k + d ≤ s.size := by omega
      have hdz : k + d = s.size := by omega
      clear hj hc hcl hct hcx hcz hd hl
      go_wp2_with fail
      refine (zput_ok F g (8 * bl.length) (leN bl) (by omega) 1 (by omega) 3 (by omega) (by decide) wr HZ.out).mono ?_
      rintro e w2 ⟨rfl, hz2⟩
      obtain ⟨F2, hz2, hk2, hf2⟩ := zp_next hz2 HKP.out HF.out
      have HZ2 := hid hz2
      have HK2 := hid hk2
      have HF2 := hid hf2
      clear hz2 hk2 hf2
      go_wp2_with fail
      refine (zalign_any F2 g _ _ (by omega) w2 HZ2.out).mono ?_
      rintro e w3 ⟨rfl, hz3⟩
      obtain ⟨F3, hz3, hk3, hf3⟩ := zp_next hz3 HK2.out HF2.out
      rw [show upK (8 * bl.length + 3) = 8 * bl.length + 8 by unfold upK; omega] at hz3
      have HZ3 := hid hz3
      have HK3 := hid hk3
      have HF3 := hid hf3
      clear hz3 hk3 hf3
      go_wp2_with fail
      refine (zput_ok F3 g _ _ (by omega) d (by omega) 16 (by omega) (by show d < 65536; omega) w3 HZ3.out).mono ?_
      rintro e w4 ⟨rfl, hz4⟩
      obtain ⟨F4, hz4, hk4, hf4⟩ := zp_next hz4 HK3.out HF3.out
      have HZ4 := hid hz4
      have HK4 := hid hk4
      have HF4 := hid hf4
      clear hz4 hk4 hf4
      go_wp2_with fail
      refine (zput_ok F4 g _ _ (by omega) j (by omega) 16 (by omega) (by show j < 65536; omega) w4 HZ4.out).mono ?_
      rintro e w5 ⟨rfl, hz5⟩
      obtain ⟨F5, hz5, hk5, hf5⟩ := zp_next hz5 HK4.out HF4.out
      have HZ5 := hid hz5
      have HK5 := hid hk5
      have HF5 := hid hf5
      clear hz5 hk5 hf5
      go_wp2_with fail
      rw [hdz] at HCX HCZ
      refine (zadd_any F5 g _ _ (s.extract k s.size) (by rw [HCZ.out]; omega) w5 HZ5.out).mono ?_
      rintro e w6 ⟨rfl, hz6⟩
      obtain ⟨F6, hz6, hk6, hf6⟩ := zp_next hz6 HK5.out HF5.out
      rw [HCZ.out, HCX.out, show upK (8 * bl.length + 8 + 16 + 16) = 8 * bl.length + 40 by unfold upK; omega, show 8 * bl.length + 40 + 8 * d = 8 * (bl.length + 5 + d) by omega, ← HBL.out, show 8 * bl.length + 8 + 16 = 8 * bl.length + 24 by omega, HLY.out] at hz6
      have HZ6 := hid hz6
      have HK6 := hid hk6
      have HF6 := hid hf6
      have HBW := hid (keeps_bw hk6)
      clear hz6 hk6 hf6 e2 s1 s2 s3 s4
      go_wp2_with fail
      refine (zstr_any F6 g _ _ (by rw [HBL.out]; omega) w6 HZ6.out).mono ?_
      rintro e w7 ⟨rfl, hb7⟩
      have HB7 := hid (HBW.out.trans hb7)
      rw [show (8 * (bl ++ blkB true c).length + 7) / 8 = (bl ++ blkB true c).length by omega, strN_leN]
      have HTX := hid (show InfR ⟨(bl ++ blkB true c).toArray⟩ ((s.size : Nat) : Int) s (bl ++ blkB true c).length 0 from by have := HRE.out.inf (by omega); rw [hdz, List.take_of_length_le (by simp)] at this; exact this)
      have HTZ := hid (show (⟨(bl ++ blkB true c).toArray⟩ : ByteArray).size = (bl ++ blkB true c).length by rfl)
      have hxz : (bl ++ blkB true c).length ≤ 1000000 := by rw [HBL.out]; omega
      clear hb7
      generalize (bl ++ blkB true c).length = xl at *
      generalize (⟨(bl ++ blkB true c).toArray⟩ : ByteArray) = tx at *
      have HTZ := HTZ
      have hxz2 : tx.size ≤ 1000000 := by rw [HTZ.out]; exact hxz
      rw [← HTZ.out] at HTX
      have HXZ := hid hxz
      clear hxz
      go_wp2_with fail
      refine (inflate_is tx (by omega) ((s.size : Nat) : Int) HTX.out w7 (HT.out.bw HB7.out)).mono ?_
      rintro e w8 ⟨rfl, hb8⟩
      have HB8 := hid (HB7.out.trans hb8)
      have HT8 := hid (HT.out.bw HB8.out)
      clear hb8
      go_wp2_with fail
      refine (live_any w8 HT8.out).mono ?_
      rintro e wl ⟨rfl, hbl⟩
      have HBL2 := hid hbl
      clear hbl
      go_wp2
      go_returns
      exact ⟨rfl, HB8.out.trans HBL2.out⟩
    · have m1 : min (z : Int) (d : Nat) = (z : Nat) := by omega
      have m2 : (z : Int) < d := by omega
      have m3 : (z : Int) ≤ d := by omega
      have t4 : (((k : Nat) : Int) + z == s.size) = false := beq_eq_false_iff_ne.2 (by omega)
      obtain ⟨c, hc⟩ : ∃ c, cut s k z = c := ⟨_, rfl⟩
      have hcl : c.length = z := by rw [← hc]; exact cut_len s k z (by omega)
      have hct : s.data.toList.take k ++ c = s.data.toList.take (k + z) := by rw [← hc, cut_list, List.take_add]
      have hcx : (s.extract k (k + z)).data.toList = c := by rw [← hc]; rfl
      have hcz : (s.extract k (k + z)).size = z := by have h9 := cut_len s k z (by omega); unfold cut at h9; rw [Array.length_toList] at h9; exact h9
      have HRE := hid (HRD.out.more c false (by rw [hcl]; omega) (by rw [hcl, List.length_take]; omega))
      rw [hct] at HRE
      have HLY := hid (lay_blk bl c false (by rw [hcl]; omega))
      rw [hcl, show lb1 false = 0 from rfl] at HLY
      have HBL := hid (show (bl ++ blkB false c).length = bl.length + 5 + z by rw [List.length_append, blkB_len, hcl]; omega)
      have HCX := hid hcx
      have HCZ := hid hcz
      obtain ⟨j, hj⟩ : ∃ j, 65535 - z = j := ⟨_, rfl⟩
      have e2 : (65535 : Int) - (z : Nat) = (j : Nat) := by omega
      rw [hj] at HLY
      have hj9 : j ≤ 65535 := by omega
      have s1 : (0 : Int) ≤ (k : Nat) + (z : Nat) := by omega
      have s2 : ((k : Nat) : Int) + (z : Nat) ≤ s.size := by omega
      have s3 : (((k : Nat) : Int) + (z : Nat)).toNat = k + z := by omega
      have s4 : ((k : Nat) : Int) ≤ (k : Nat) + (z : Nat) := by omega
      have hn9 : z ≤ 65535 := by omega
      have hkn : k + z ≤ s.size := by omega
      have hlt : k + z < s.size := by omega
      clear hj hc hcl hct hcx hcz hd hl
      go_wp2_with fail
      refine (zput_ok F g (8 * bl.length) (leN bl) (by omega) 0 (by omega) 3 (by omega) (by decide) wr HZ.out).mono ?_
      rintro e w2 ⟨rfl, hz2⟩
      obtain ⟨F2, hz2, hk2, hf2⟩ := zp_next hz2 HKP.out HF.out
      have HZ2 := hid hz2
      have HK2 := hid hk2
      have HF2 := hid hf2
      clear hz2 hk2 hf2
      go_wp2_with fail
      refine (zalign_any F2 g _ _ (by omega) w2 HZ2.out).mono ?_
      rintro e w3 ⟨rfl, hz3⟩
      obtain ⟨F3, hz3, hk3, hf3⟩ := zp_next hz3 HK2.out HF2.out
      rw [show upK (8 * bl.length + 3) = 8 * bl.length + 8 by unfold upK; omega] at hz3
      have HZ3 := hid hz3
      have HK3 := hid hk3
      have HF3 := hid hf3
      clear hz3 hk3 hf3
      go_wp2_with fail
      refine (zput_ok F3 g _ _ (by omega) z (by omega) 16 (by omega) (by show z < 65536; omega) w3 HZ3.out).mono ?_
      rintro e w4 ⟨rfl, hz4⟩
      obtain ⟨F4, hz4, hk4, hf4⟩ := zp_next hz4 HK3.out HF3.out
      have HZ4 := hid hz4
      have HK4 := hid hk4
      have HF4 := hid hf4
      clear hz4 hk4 hf4
      go_wp2_with fail
      refine (zput_ok F4 g _ _ (by omega) j (by omega) 16 (by omega) (by show j < 65536; omega) w4 HZ4.out).mono ?_
      rintro e w5 ⟨rfl, hz5⟩
      obtain ⟨F5, hz5, hk5, hf5⟩ := zp_next hz5 HK4.out HF4.out
      have HZ5 := hid hz5
      have HK5 := hid hk5
      have HF5 := hid hf5
      clear hz5 hk5 hf5
      go_wp2_with fail
      skip
      refine (zadd_any F5 g _ _ (s.extract k (k + z)) (by rw [HCZ.out]; omega) w5 HZ5.out).mono ?_
      rintro e w6 ⟨rfl, hz6⟩
      obtain ⟨F6, hz6, hk6, hf6⟩ := zp_next hz6 HK5.out HF5.out
      rw [HCZ.out, HCX.out, show upK (8 * bl.length + 8 + 16 + 16) = 8 * bl.length + 40 by unfold upK; omega, show 8 * bl.length + 40 + 8 * z = 8 * (bl.length + 5 + z) by omega, ← HBL.out, show 8 * bl.length + 8 + 16 = 8 * bl.length + 24 by omega, HLY.out] at hz6
      have HZ6 := hid hz6
      have HK6 := hid hk6
      have HF6 := hid hf6
      have HBW := hid (keeps_bw hk6)
      clear hz6 hk6 hf6 e2 s1 s2 s3 s4
      go_wp2
      exact ⟨⟨k + z, by omega, by go_num, F6, bl ++ blkB false c, by rw [HBL.out]; omega, HZ6.out, HRE.out, HK6.out, HF6.out⟩, by simp [intOf]; omega⟩
theorem walk (s : ByteArray) (hs : s.size ≤ 140737488351232) (x : Int) (hx : (Lit.int .i64 x).wf = true) (w : World) (hh : Tabs w.heap.size w) :
    Calls Tryd.prog 7 #[.string s, .int .i64 x] w fun e w' => e = .returned (.bool true) ∧ Bw w w' := by
  by_cases h : s.size ≤ 3000
  · by_cases h1 : x < 1
    · exact big2 s x h h1 w hh
    · by_cases h2 : 65535 < x
      · exact big3 s x h h1 h2 w hh
      · obtain ⟨z, rfl⟩ := Int.eq_ofNat_of_zero_le (show 0 ≤ x by omega)
        exact small s z h (by omega) (by omega) w hh
  · exact big1 s x h w hh

/-! The frame: from the walk to the statement. -/
set_option maxRecDepth 100000 in
theorem lifted (os : Os) (started : os.Started) (H : Type) (enc : TypeId × Value → H) :
    ReturnsInHanded {} Tryd.checked os 7 .any (fun w args => (Rows.inflateStoredSpec.pre enc Tryd.prog Tryd.f7 [] false w args ∧ laidMetH Tryd.prog Rows.inflateReadsRow.laid w) ∧ sizedMet enc Tryd.prog Tryd.f7 (OpenSpec.ofChange Rows.inflateStoredSpec) false w args)
      (Rows.inflateStoredSpec.post enc Tryd.prog Tryd.f7 false true false false) := by
  refine returnsInHanded_of_change_and (C := Tryd.checked) (X := fun w _ => laidMetH Tryd.prog Rows.inflateReadsRow.laid w) (fun _ _ _ hh h => h.of_heap hh) own started (by kernel_rfl) Tryd.func7
    (ChangeSpec.witness_shaped (enc := enc) (C := Tryd.checked) (os := os) (X := fun w _ => laidMetH Tryd.prog Rows.inflateReadsRow.laid w) false (World.doorLaid Tryd.prog 400 os) #[.string ⟨#[]⟩, .int .i64 0] 8 rfl (World.shaped_of_RefB (by kernel_rfl) (by kernel_rfl)) (by kernel_rfl) (by kernel_rfl) (by kernel_rfl) (door_met os _)) ?_
  intro W base args ds gs before hval0 hW _ hsz0 hL _
  have hval : ∀ (j : Nat) t v, Tryd.f7.params[j]? = some t → args[j]? = some v → Value.okWide Tryd.prog W .any base t v := hval0
  have hW' := hW
  obtain ⟨p, q, hA0, hV, rfl, hfz, hnd⟩ := hW
  have hA : DataW.TrodAll enc Tryd.prog W 0 (fun _ => true) true Tryd.f7.params.toList args.toList ds p := hA0
  have hsz : (DataW.weightsEach Tryd.prog (Tryd.f7.params.toList ++ Rows.inflateStoredSpec.plain.varTypes Tryd.prog) (ds ++ gs)).all (· ≤ reachBytes) = true := hsz0
  rw [Tryd.params7] at hA hval hsz
  obtain ⟨v0, vs0, d0, ds0, p0, q0, hargs, rfl, rfl, h0, r0⟩ := trodAll_cons hA
  obtain ⟨v1, vs1, d1, ds1, p1, q1, rfl, rfl, rfl, h1, r1⟩ := trodAll_cons r0
  obtain ⟨rfl, rfl, rfl⟩ := trodAll_nil r1
  obtain rfl : args = #[v0, v1] := by cases args; simp_all
  obtain ⟨rfl, rfl⟩ := trodVars_none hV
  obtain ⟨a0, rfl, rfl, rfl, w0⟩ := open_string Tryd.underlying9 (hval 0 9 v0 rfl rfl) h0
  have z0 := sized_string hsz (j := 0) (t := 9) (bytes := a0.data.toList) rfl rfl
  obtain ⟨a1, rfl, rfl, rfl, w1⟩ := open_int Tryd.underlying3 (hval 1 3 v1 rfl rfl) h1
  clear hA0 hval0
  try simp only [List.append_nil] at hW'
  refine (walk a0 (str_le z0) a1 w1 W (tabs_of hL)).mono fun e W' ⟨he, bel⟩ => ?_
  subst he
  exact ⟨_, rfl, _, _, _, [], _, [], hW', trodAll_mk1 (shut_bool Tryd.underlying4 _), (trodAll_cons_mk (shut_string Tryd.underlying9 w0) (trodAll_cons_mk (shut_int Tryd.underlying3 w1) trodAll_mk0)), rfl, Below.frame bel _, fun h => by cases h⟩

theorem holds : Rows.InflateStoredSaid :=
  OpenClaim.holds_of_wide 7 Tryd.f7 rfl rfl rfl rfl rfl rfl rfl ⟨rfl, rfl, rfl, rfl, rfl⟩ rfl rfl rfl rfl rfl (by kernel_rfl) Tryd.func7 (by kernel_rfl)
    (of_decide_eq_true (by kernel_rfl)) (by unfold Func.isWrapper; first | (rw [if_pos (by decide +kernel)]; kernel_rfl) | (rw [if_neg (by decide +kernel)]; exact ⟨rfl, rfl⟩))
    (fun os started H enc _ => lifted os started H enc)

theorem proved : Rows.InflateStoredCardSaid :=
  Claim7.holds_tied_plain_at .later [] [.wider, .wider, .data] true _ true
    holds (fun _ h => by cases h) (by kernel_rfl) (fun _ h => by cases h) inflateStored_row_tie rfl ⟨rfl, rfl⟩ (by kernel_rfl) rfl
    (fun f fn hf hfn => by
      obtain rfl : f = 7 := Option.some.inj ((show Tryd.prog.funcNamed "mortise/mortiselaw07.InflateStored" = some 7 by kernel_rfl).symm.trans hf) |>.symm
      obtain rfl : fn = Tryd.f7 := (Option.some.inj (Tryd.func7.symm.trans hfn)).symm
      exact ⟨by kernel_rfl, fun j t ht => by
        rw [Tryd.params7] at ht
        have hm : t ∈ [9, 3] := by simpa using Array.mem_of_getElem? ht
        have hall : ([9, 3].all fun u => !Tryd.prog.wantsStandIn u) = true := by kernel_rfl
        exact (show Tryd.prog.wantsStandIn t = false by simpa using List.all_eq_true.1 hall t hm)⟩)
    (by kernel_rfl)
end Go.Proofs.YtaihojjocmdgbaaDoor.inflateStored

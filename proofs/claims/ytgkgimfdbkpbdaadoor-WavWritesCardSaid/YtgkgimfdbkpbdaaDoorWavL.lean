/- live of wav's laws (contract of the function). -/
import Derived.Test.YtgkgimfdbkpbdaaDoorWavX
namespace Go.Proofs.YtgkgimfdbkpbdaaDoor
open Go.RowKit
set_option linter.unusedVariables false
set_option linter.unusedSimpArgs false
theorem sound_more {m : SndR} (h : soundB m = true) : ∀ c ∈ m.more, moreB c = true := by
  unfold soundB at h
  rw [Bool.and_eq_true, List.all_eq_true] at h
  exact h.2
theorem sound_shape {m : SndR} (h : soundB m = true) : shapeB m = true := by
  unfold soundB at h
  rw [Bool.and_eq_true, Bool.and_eq_true] at h
  exact h.1.1
theorem filt_all {l : List ChkR} (h : ∀ c ∈ l, moreB c = true) : l.filter moreB = l := List.filter_eq_self.2 h
theorem filt_head (m : SndR) (d : ByteArray) (l : List ChkR) : (⟨fmtT, d⟩ :: l : List ChkR).filter moreB = l.filter moreB := List.filter_cons_of_neg (by rw [not_more_fmt]; decide)
theorem filt_dat (d : ByteArray) (l : List ChkR) : (⟨dataT, d⟩ :: l : List ChkR).filter moreB = l.filter moreB := List.filter_cons_of_neg (by rw [not_more_dat]; decide)
theorem lay_all {m : SndR} (h : soundB m = true) : Lay m (allC m) 0 1 where
  lt := by decide
  len := by show 1 < m.more.length + 1 + 1; omega
  fmt := fun _ => rfl
  dat := fun _ => rfl
  more := fun i hi h0 h1 => by
    obtain ⟨k, rfl⟩ : ∃ k, i = k + 2 := ⟨i - 2, by omega⟩
    have hk : k < m.more.length := by have : k + 2 < m.more.length + 1 + 1 := hi; omega
    show moreB (m.more[k]'hk) = true
    exact sound_more h _ (List.getElem_mem _)
  all := by
    show (⟨fmtT, fmtS m⟩ :: ⟨dataT, m.frames⟩ :: m.more : List ChkR).filter moreB = m.more
    rw [filt_head m, filt_dat, filt_all (sound_more h)]
theorem chk_nil (w : World) (a : Option Addr) : ChkAt w a [] := fun i hi => absurd hi (Nat.not_lt_zero i)
def m0 : SndR := ⟨1, 8000, 8, ⟨#[97, 98, 99]⟩, []⟩
theorem m0_sound : soundB m0 = true := by decide +kernel
theorem m0_sum : sumP (allC m0) = 36 := by
  show 8 + pad (fmtS m0).size + (8 + pad (⟨#[97, 98, 99]⟩ : ByteArray).size + 0) = 36
  have h1 : (fmtS m0).size = 16 := fmtN_size _ _ _
  have h2 : (⟨#[97, 98, 99]⟩ : ByteArray).size = 3 := rfl
  rw [h1, h2]
  decide
theorem abc_join : joinP ⟨#[97, 98, 99]⟩ [] = (⟨#[]⟩, 1) := by
  unfold joinP
  rw [if_neg (by decide +kernel)]
theorem few_nil : Few [] := ⟨by simp, fun c hc => by cases hc⟩
set_option maxRecDepth 100000 in
set_option maxHeartbeats 8000000 in
theorem live_any (w : World) (hw : WidAt w) :
    Calls Tryd.prog 9 #[] w fun e w' => e = .returned (.bool true) ∧ Bw w w' := by
  have HWD := hid hw
  have hsm := m0_sum
  have hwr : writeP m0 = (joinT waveT (allC m0), 0) := if_pos m0_sound
  have hz : (joinT waveT (allC m0)).size = 48 := by rw [joinT_size wave_typ (all_types m0_sound), hsm]
  have hsp : splitP (joinT waveT (allC m0)) = (waveT, allC m0, 0) := split_join wave_typ (all_types m0_sound) (by omega)
  obtain ⟨s, hs⟩ : ∃ s, joinT waveT (allC m0) = s := ⟨_, rfl⟩
  rw [hs] at hwr hz hsp
  have HWR := hid (fun W (hW : WidAt W) => wwrite_any m0 (by decide) (by decide) (fun c hc => by cases hc) none 0 0 rfl (fun _ => ⟨rfl, rfl⟩) W (chk_nil W _) hW)
  rw [hwr] at HWR
  have HW2 := hid (fun W (hW : WidAt W) => (show Calls Tryd.prog 16 #[.agg #[.int .i64 1, .int .i64 8000, .int .i64 8, .string ⟨#[97, 98, 99]⟩, .slice none 0 0]] W fun e w' => e = .returned (.tuple #[.string s, .int .i64 0]) ∧ Bw W w' from HWR.out W hW))
  have HRD := hid (fun W (hW : WidAt W) => (show Calls Tryd.prog 18 #[.string s] W fun e w' => ∃ a c, e = .returned (.tuple #[.agg #[.int .i64 1, .int .i64 8000, .int .i64 8, .string ⟨#[97, 98, 99]⟩, .slice a 0 c], .int .i64 0]) ∧ Bw W w' ∧ ChkAt w' a [] from
    read_any s (by omega) m0 (allC m0) 0 1 hsp (lay_all m0_sound) m0_sound (by decide) (by decide) W hW))
  have HSP := hid (fun W => (split_any s (by omega) W).mono (fun e W' h => (show ∃ a c, e = .returned (.tuple #[.string ⟨#[87, 65, 86, 69]⟩, .slice a 2 c, .int .i64 0]) ∧ Bw W W' from by
    obtain ⟨a, c, h1, h2, h3⟩ := h
    rw [hsp] at h1
    exact ⟨a, c, h1, h2⟩)))
  have HJN := hid (fun W => join_any ⟨#[97, 98, 99]⟩ (by decide) none 0 0 (by decide) [] (hid rfl) few_nil W (chk_nil W _))
  rw [abc_join] at HJN
  have HSM := hid (fun a c W => (show Calls Tryd.prog 19 #[.agg #[.int .i64 1, .int .i64 8000, .int .i64 8, .string ⟨#[97, 98, 99]⟩, .slice none 0 0], .agg #[.int .i64 1, .int .i64 8000, .int .i64 8, .string ⟨#[97, 98, 99]⟩, .slice a 0 c]] W fun e w' => e = .returned (.bool true) ∧ Bw W w' from
    sameS_eq m0 none a 0 0 c rfl (by decide) W (chk_nil W _) (chk_nil W _)))
  clear hw hsm hwr hs hsp HWR
  have HA1 := hid ((Bw.refl w).alloc (.cells #[.int .i64 1, .int .i64 8000, .int .i64 8, .string ⟨#[97, 98, 99]⟩, .slice none 0 0] 34))
  have HX1 := hid (Has.new w 34 #[.int .i64 1, .int .i64 8000, .int .i64 8, .string ⟨#[97, 98, 99]⟩, .slice none 0 0])
  obtain ⟨na, hna⟩ : ∃ na, w.heap.size = na := ⟨_, rfl⟩
  rw [hna] at HX1
  go_enter Tryd.func9, Tryd.ntmps9
  go_upto_region 2 with fail
  generalize w.alloc (.cells #[.int .i64 1, .int .i64 8000, .int .i64 8, .string ⟨#[97, 98, 99]⟩, .slice none 0 0] 34) = w1 at *
  clear hna
  obtain ⟨x0, x1, x2, x3, x4⟩ := HX1.out.five
  go_wp2_with fail
  refine (HW2.out _ (HWD.out.bw HA1.out)).mono ?_
  rintro e w2 ⟨rfl, hb2⟩
  have HB2 := hid (HA1.out.trans hb2)
  have HX2 := hid (hb2.has HX1.out)
  clear hb2 HA1 HX1 x0 x1 x2 x3 x4 HW2
  go_wp2_with fail
  refine (HRD.out _ (HWD.out.bw HB2.out)).mono ?_
  rintro e w3 ⟨a, c, rfl, hb3, _⟩
  have HB3 := hid (HB2.out.trans hb3)
  have HX3 := hid (hb3.has HX2.out)
  clear hb3 HB2 HX2 HRD
  have HA4 := hid (HB3.out.alloc (.cells #[.int .i64 1, .int .i64 8000, .int .i64 8, .string ⟨#[97, 98, 99]⟩, .slice a 0 c] 34))
  have HX4 := hid (HX3.out.alloc (.cells #[.int .i64 1, .int .i64 8000, .int .i64 8, .string ⟨#[97, 98, 99]⟩, .slice a 0 c] 34))
  have HY4 := hid (Has.new w3 34 #[.int .i64 1, .int .i64 8000, .int .i64 8, .string ⟨#[97, 98, 99]⟩, .slice a 0 c])
  obtain ⟨nb, hnb⟩ : ∃ nb, w3.heap.size = nb := ⟨_, rfl⟩
  rw [hnb] at HY4
  go_upto_region 4 with fail
  generalize w3.alloc (.cells #[.int .i64 1, .int .i64 8000, .int .i64 8, .string ⟨#[97, 98, 99]⟩, .slice a 0 c] 34) = w4 at *
  clear hnb HB3 HX3
  go_wp2_with fail
  refine (HSP.out w4).mono ?_
  rintro e w5 ⟨a5, c5, rfl, hb5⟩
  have HB5 := hid (HA4.out.trans hb5)
  have HX5 := hid (hb5.has HX4.out)
  have HY5 := hid (hb5.has HY4.out)
  clear hb5 HA4 HX4 HY4 HSP
  go_wp2_with fail
  refine (HJN.out w5).mono ?_
  rintro e w6 ⟨rfl, hb6⟩
  have HB6 := hid (HB5.out.trans hb6)
  have HX6 := hid (hb6.has HX5.out)
  have HY6 := hid (hb6.has HY5.out)
  clear hb6 HB5 HX5 HY5 HJN
  obtain ⟨x0, x1, x2, x3, x4⟩ := HX6.out.five
  obtain ⟨y0, y1, y2, y3, y4⟩ := HY6.out.five
  have hsz : (s.size : Int) = 48 := by omega
  go_wp2_with fail
  refine (HSM.out a c _).mono ?_
  rintro e w7 ⟨rfl, hb7⟩
  have HB7 := hid (HB6.out.trans hb7)
  clear hb7
  go_wp2
  go_returns
  exact ⟨rfl, HB7.out⟩
end Go.Proofs.YtgkgimfdbkpbdaaDoor

/- Write, Read, Same (contracts of the functions). -/
import Derived.Test.YtgkgimfdbkpbdaaDoorWavQ
import Derived.Test.YtgkgimfdbkpbdaaDoorWavG
import Derived.Test.YtgkgimfdbkpbdaaDoorWavK
namespace Go.Proofs.YtgkgimfdbkpbdaaDoor
open Go.RowKit
set_option linter.unusedVariables false
set_option linter.unusedSimpArgs false
theorem write_few {m : SndR} (hfz : m.frames.size ≤ 20000) (hl : m.more.length ≤ 40) (hm : ∀ c ∈ m.more, c.dat.size ≤ 5000) : Few (allC m) := by
  refine ⟨by show m.more.length + 1 + 1 ≤ 50; omega, fun c hc => ?_⟩
  unfold allC at hc
  rcases List.mem_cons.1 hc with rfl | hc
  · show (fmtS m).size ≤ 20000
    have : (fmtS m).size = 16 := fmtN_size _ _ _
    omega
  rcases List.mem_cons.1 hc with rfl | hc
  · exact hfz
  have := hm c hc
  omega
theorem all_ok {w : World} {a : Option Addr} {l : List ChkR} (h : ChkAt w a l) : ∀ c ∈ l, c.Ok := fun c hc => by
  obtain ⟨i, hi, rfl⟩ := List.getElem_of_mem hc
  obtain ⟨_, _, _, _, _, _, h⟩ := h i hi
  exact h
theorem allC_ok {m : SndR} (hfz : m.frames.size ≤ 20000) (h : ∀ c ∈ m.more, c.Ok) : ∀ c ∈ allC m, c.Ok := fun c hc => by
  unfold allC at hc
  rcases List.mem_cons.1 hc with rfl | hc
  · refine ⟨by show fmtT.size ≤ _; decide, ?_⟩
    show (fmtS m).size ≤ _
    have : (fmtS m).size = 16 := fmtN_size _ _ _
    omega
  rcases List.mem_cons.1 hc with rfl | hc
  · exact ⟨by show dataT.size ≤ _; decide, by show m.frames.size ≤ _; omega⟩
  exact h c hc
set_option maxRecDepth 100000 in
set_option maxHeartbeats 8000000 in
theorem wwrite_any (m : SndR) (hfz : m.frames.size ≤ 20000) (hml : m.more.length ≤ 40) (hmz : ∀ c ∈ m.more, c.dat.size ≤ 5000) (a : Option Addr) (n c : Nat) (hn : m.more.length = n) (hA : a = none → n = 0 ∧ c = 0) (w : World) (ha : ChkAt w a m.more) (hw : WidAt w) :
    Calls Tryd.prog 16 #[sndV m a n c] w fun e w' => e = .returned (.tuple #[.string (writeP m).1, .int .i64 (writeP m).2]) ∧ Bw w w' := by
  have HV := hid (fun W (h : Bw w W) => isValid_any m (by omega) a n c (by omega) (hid hn) W (ha.below h))
  have HA := hid ha
  have HWD := hid hw
  have HP := hid (show writeP m = if soundB m then (joinT waveT (allC m), 0) else (⟨#[]⟩, 1) from rfl)
  obtain ⟨P, hP⟩ : ∃ P, writeP m = P := ⟨_, rfl⟩
  rw [hP] at HP ⊢
  clear hP
  cases hs : soundB m with
  | false =>
    rw [hs] at HV HP
    have HPV := hid (show P = (⟨#[]⟩, 1) from HP.out)
    unfold sndV at HV ⊢
    have HB1 := hid ((Bw.refl w).alloc (.cells #[.int .i64 m.ch, .int .i64 m.rate, .int .i64 m.bits, .string m.frames, .slice a n c] 34))
    have HX1 := hid (Has.new w 34 #[.int .i64 m.ch, .int .i64 m.rate, .int .i64 m.bits, .string m.frames, .slice a n c])
    go_enter Tryd.func16, Tryd.ntmps16
    go_wp2_with fail
    refine (HV.out _ HB1.out).mono ?_
    rintro e w2 ⟨rfl, hb2⟩
    have HB2 := hid (HB1.out.trans hb2)
    go_wp2
    go_returns
    exact ⟨by rw [HPV.out]; rfl, HB2.out⟩
  | true =>
    rw [hs] at HV HP
    have hs2 := hs
    unfold soundB at hs2
    rw [Bool.and_eq_true, Bool.and_eq_true] at hs2
    obtain ⟨c', r', b', e1, e2, e3, hc1, hc2, hr1, hr2, hb⟩ := shape_nat hs2.1.1
    have HFS := hid (show fmtS m = fmtN c' r' b' from by unfold fmtS; rw [e1, e2, e3, Int.toNat_natCast, Int.toNat_natCast, Int.toNat_natCast])
    have HFO := hid (fun x y W (hW : WidAt W) => formatOf_any c' r' b' ⟨hc1, hc2⟩ ⟨hr1, hr2⟩ hb x y W hW)
    rw [← HFS.out] at HFO
    have HJP := hid (show joinP waveT (allC m) = P from by rw [joinB_ok wave_typ (all_types hs)]; exact HP.out.symm)
    have HJN := hid (fun (v : Option Addr) (cc : Nat) W (h : ChkAt W v (allC m)) => join_any waveT (by decide) v (allC m).length cc (by show m.more.length + 1 + 1 ≤ _; omega) (allC m) (hid rfl) (write_few hfz hml hmz) W h)
    rw [HJP.out] at HJN
    have HOK := hid (allC_ok hfz (all_ok ha))
    have HALL := hid (show allC m = [⟨fmtT, fmtS m⟩, ⟨dataT, m.frames⟩] ++ m.more from rfl)
    have HLN := hid (show (allC m).length ≤ 42 by show m.more.length + 1 + 1 ≤ 42; omega)
    have HMN := hid hn
    unfold sndV at HV ⊢
    rw [e1, e2, e3] at HV ⊢
    obtain ⟨all, hall⟩ : ∃ all, allC m = all := ⟨_, rfl⟩
    rw [hall] at HJN HOK HALL HLN
    obtain ⟨F, hF⟩ : ∃ F, fmtS m = F := ⟨_, rfl⟩
    rw [hF] at HFO HALL
    obtain ⟨fr, hfr⟩ : ∃ fr, m.frames = fr := ⟨_, rfl⟩
    rw [hfr] at HV HALL ⊢
    obtain ⟨mo, hmo⟩ : ∃ mo, m.more = mo := ⟨_, rfl⟩
    rw [hmo] at HALL HMN HA
    have hn40 : n ≤ 40 := by rw [← hn]; exact hml
    clear ha hn hs hs2 e1 e2 e3 HFS HJP hall hF hfr hmo hml hmz HP
    unfold fmtT dataT at HALL
    unfold waveT at HJN
    have HB1 := hid ((Bw.refl w).alloc (.cells #[.int .i64 (c' : Nat), .int .i64 (r' : Nat), .int .i64 (b' : Nat), .string fr, .slice a n c] 34))
    have HX1 := hid (Has.new w 34 #[.int .i64 (c' : Nat), .int .i64 (r' : Nat), .int .i64 (b' : Nat), .string fr, .slice a n c])
    obtain ⟨gx, hgx⟩ : ∃ gx, w.heap.size = gx := ⟨_, rfl⟩
    rw [hgx] at HX1
    go_enter Tryd.func16, Tryd.ntmps16
    go_wp2_with fail
    generalize w.alloc (.cells #[.int .i64 (c' : Nat), .int .i64 (r' : Nat), .int .i64 (b' : Nat), .string fr, .slice a n c] 34) = w1 at *
    refine (HV.out _ HB1.out).mono ?_
    rintro e w2 ⟨rfl, hb2⟩
    have HB2 := hid (HB1.out.trans hb2)
    have HX2 := hid (hb2.has HX1.out)
    clear hb2 HB1 HX1 HV
    have HSK := hid (fun W (hW : Bw w2 W) => (show W.cell? ⟨gx, 0, none⟩ = some (.int .i64 (c' : Nat)) ∧ W.cell? ⟨gx, 1, none⟩ = some (.int .i64 (r' : Nat)) ∧ W.cell? ⟨gx, 2, none⟩ = some (.int .i64 (b' : Nat)) ∧ W.cell? ⟨gx, 3, none⟩ = some (.string fr) ∧ W.cell? ⟨gx, 4, none⟩ = some (.slice a n c) from (hW.has HX2.out).five))
    have HBD := hid (show Bw w2 w2.drew from (Bw.refl w2).drewN 1)
    go_wp2_with fail
    go_region_held3 (fun W => W.cell? ⟨gx, 0, none⟩ = some (.int .i64 (c' : Nat)) ∧ W.cell? ⟨gx, 1, none⟩ = some (.int .i64 (r' : Nat)) ∧ W.cell? ⟨gx, 2, none⟩ = some (.int .i64 (b' : Nat)) ∧ W.cell? ⟨gx, 3, none⟩ = some (.string fr) ∧ W.cell? ⟨gx, 4, none⟩ = some (.slice a n c))
      (first | exact HSK.out _ HBD.out | exact HSK.out _ HBf.out | exact HSK.out _ (HBf.out.alloc _))
      (first | (go_at_call 36; refine (HFO.out _ _ _ (HWD.out.bw (HB2.out.trans HBD.out))).mono ?_; rintro e wf ⟨rfl, hbf⟩; have HBf := hid (HBD.out.trans hbf); clear hbf))
    have HBW := hid (HB2.out.trans HBf.out)
    have HO := hid (two_own wf w.heap.size HBW.out.size ⟨#[102, 109, 116, 32]⟩ F ⟨#[100, 97, 116, 97]⟩ fr)
    have HBX := hid (HBW.out.alloc (.cells #[.string ⟨#[102, 109, 116, 32]⟩, .string F, .string ⟨#[100, 97, 116, 97]⟩, .string fr] 42))
    have HX4 := hid (HSK.out _ (HBf.out.alloc (.cells #[.string ⟨#[102, 109, 116, 32]⟩, .string F, .string ⟨#[100, 97, 116, 97]⟩, .string fr] 42)))
    obtain ⟨gl, hgl⟩ : ∃ gl, wf.heap.size = gl := ⟨_, rfl⟩
    rw [hgl] at HO
    rw [hgl]
    generalize wf.alloc (.cells #[.string ⟨#[102, 109, 116, 32]⟩, .string F, .string ⟨#[100, 97, 116, 97]⟩, .string fr] 42) = w5 at *
    clear hgl
    obtain ⟨_, _, _, _, x4⟩ := HX4.out
    go_wp2_with (at_builtin; refine wpList_app_chk rfl _ _ rfl w.heap.size _ _ mo rfl HO.out a n c rfl HMN.out hA (HA.out.below HBX.out) (by show 2 + n ≤ 1000000; omega) HBX.out.size ?_; intro v7 w7 hown7 hgrow7; rw [← HALL.out] at hown7; obtain ⟨ao, cp, rfl⟩ := own_slice hown7; have HO7 := hid hown7; have HB7 := hid (show Bw w w7 from Below.trans HBX.out (own_grownJ HO.out hgrow7 HBX.out.size)); clear hown7 hgrow7)
    refine (HJN.out ao cp _ (ChkAt.of_own HO7.out HOK.out)).mono ?_
    rintro e w8 ⟨rfl, hb8⟩
    have HB8 := hid (HB7.out.trans hb8)
    clear hb8
    go_wp2
    go_returns
    exact ⟨rfl, HB8.out⟩
end Go.Proofs.YtgkgimfdbkpbdaaDoor

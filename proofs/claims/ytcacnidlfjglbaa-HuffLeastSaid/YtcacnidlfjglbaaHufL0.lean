/- The answers that the document gives: they come (contract of the function). -/
import Derived.Test.YtcacnidlfjglbaaHufLe
import Derived.Test.YtcacnidlfjglbaaHufV
import Derived.Test.YtcacnidlfjglbaaHufH
namespace Go.Proofs.Ytcacnidlfjglbaa
open Go.RowKit Go.Conc
set_option linter.unusedVariables false
def zsCells (l : List Int) : Array Value := (l.map fun x => Value.int .i64 x).toArray
theorem zs_has {W : World} {b : Nat} {l : List Int} (h : Has W b 3 (zsCells l)) : ZsAt W (some ⟨b, 0, none⟩) l := fun i hi => by
  refine ⟨b, 0, rfl, h.lt, ?_⟩
  rw [Nat.zero_add, h.cell i]
  simp [zsCells, hi]
set_option maxRecDepth 100000 in
theorem live_facts : checkE [2, 1, 3, 3] = 0 ∧ checkE [1, 1, 1] = 3 ∧ cArr [2, 1, 3, 3] 4 4 = zsCells [2, 0, 6, 7] ∧ nextV [2, 1, 3, 3] ⟨#[5]⟩ 0 = 0 ∧ nextE [2, 1, 3, 3] ⟨#[5]⟩ 0 = 0 ∧ nextK [2, 1, 3, 3] ⟨#[5]⟩ 0 = 2 ∧ nextV [2, 1, 3, 3] ⟨#[5]⟩ 2 = 0 ∧ nextE [2, 1, 3, 3] ⟨#[5]⟩ 2 = 0 ∧ nextK [2, 1, 3, 3] ⟨#[5]⟩ 2 = 4 := by
  refine ⟨by decide, by decide, by kernel_rfl, by decide, by decide, by decide, by decide, by decide, by decide⟩
set_option maxRecDepth 100000 in
theorem live_lens : (lvM [1, 1, 2, 4] 4).length = 4 ∧ 6 ≤ (lvlM (lvM [1, 1, 2, 4] 4) 14).length ∧ lenArr (flatS (chosen (lvM [1, 1, 2, 4] 4) 15)) 4 = zsCells [3, 3, 2, 1] := by
  refine ⟨by decide, by decide, by kernel_rfl⟩
set_option maxRecDepth 100000 in
set_option maxHeartbeats 8000000 in
theorem live_any (w : World) :
    Calls Try.prog 5 #[] w fun e w' => e = .returned (.bool true) ∧ Bw w w' := by
  obtain ⟨f1, f2, f3, f4, f5, f6, f7, f8, f9⟩ := live_facts
  obtain ⟨g1, g2, g3⟩ := live_lens
  have HC := hid (fun W b h => codes_ok (some ⟨b, 0, none⟩) 4 4 [2, 1, 3, 3] (hid rfl) f1 W (zs_has h))
  have HN := hid (fun W b h => new_ok (some ⟨b, 0, none⟩) 4 4 [2, 1, 3, 3] (hid rfl) f1 W (zs_has h))
  have HL := hid (fun W b h => lengths_few (some ⟨b, 0, none⟩) 4 4 15 4 [1, 1, 2, 4] (hid rfl) (by decide) (by decide) (by decide) (by decide) g1 (by decide) (by decide) (by decide) g2 W (zs_has h))
  have HX := hid (fun W B tb g k h1 h2 h3 => next_any B tb g [2, 1, 3, 3] (IsCode.of_check f1) ⟨#[5]⟩ (by decide) k h3 W h1 h2)
  have HK := hid (fun W b h => check_any (some ⟨b, 0, none⟩) 3 3 [1, 1, 1] (hid rfl) W (zs_has h))
  have HF := hid (⟨f2, f3, f4, f5, f6, f7, f8, f9, g3⟩ : checkE [1, 1, 1] = 3 ∧ cArr [2, 1, 3, 3] 4 4 = zsCells [2, 0, 6, 7] ∧ nextV [2, 1, 3, 3] ⟨#[5]⟩ 0 = 0 ∧ nextE [2, 1, 3, 3] ⟨#[5]⟩ 0 = 0 ∧ nextK [2, 1, 3, 3] ⟨#[5]⟩ 0 = 2 ∧ nextV [2, 1, 3, 3] ⟨#[5]⟩ 2 = 0 ∧ nextE [2, 1, 3, 3] ⟨#[5]⟩ 2 = 0 ∧ nextK [2, 1, 3, 3] ⟨#[5]⟩ 2 = 4 ∧ lenArr (flatS (chosen (lvM [1, 1, 2, 4] 4) 15)) 4 = zsCells [3, 3, 2, 1])
  clear f1 f2 f3 f4 f5 f6 f7 f8 f9 g1 g2 g3
  go_enter Try.func5, Try.ntmps5
  go_wp2_with fail
  have hA := Has.new w 3 #[.int .i64 2, .int .i64 1, .int .i64 3, .int .i64 3]
  refine (HC.out _ _ hA).mono ?_
  rintro e w2 ⟨rb, rfl, hrb, hc, hb⟩
  have HB2 := hid (Bw.trans ((Bw.refl w).alloc (.cells #[.int .i64 2, .int .i64 1, .int .i64 3, .int .i64 3] 3)) hb)
  rw [HF.out.2.1] at hc
  have HCD := hid hc
  clear hA hc hb hrb
  go_wp2_with fail
  have hA := Has.new w2 3 #[.int .i64 2, .int .i64 1, .int .i64 3, .int .i64 3]
  refine (HN.out _ _ hA).mono ?_
  rintro e w4 ⟨tb, rfl, htb, hT, hb⟩
  have HB4 := hid (Bw.trans ((Bw.refl w2).alloc (.cells #[.int .i64 2, .int .i64 1, .int .i64 3, .int .i64 3] 3)) hb)
  have HT := hid hT
  clear hA hT hb htb
  go_wp2_with fail
  have hA := Has.new w4 3 #[.int .i64 1, .int .i64 1, .int .i64 2, .int .i64 4]
  refine (HL.out _ _ hA).mono ?_
  rintro e w6 ⟨lb, rfl, hlb, hl, hb⟩
  rw [HF.out.2.2.2.2.2.2.2.2] at hl
  have HB6 := hid (Bw.trans ((Bw.refl w4).alloc (.cells #[.int .i64 1, .int .i64 1, .int .i64 2, .int .i64 4] 3)) hb)
  have HLB := hid hl
  clear hA hl hb hlb
  go_wp2_with fail
  refine (newR_any ⟨#[5]⟩ w6).mono ?_
  rintro e w7 ⟨rfl, hr, hb, hsz⟩
  have HR := hid hr
  have HB7 := hid hb
  clear hr hb
  obtain ⟨B, hB⟩ : ∃ B, (w2.alloc (.cells #[.int .i64 2, .int .i64 1, .int .i64 3, .int .i64 3] 3)).heap.size = B := ⟨_, rfl⟩
  rw [hB] at HT
  have HT6 := hid (HT.out.bw HB6.out)
  clear hB HT
  go_wp2_with fail
  have h8 := HX.out w7 B tb w6.heap.size 0 (HT6.out.bw HB7.out) HR.out (Nat.zero_le _)
  unfold NextPost at h8
  rw [HF.out.2.2.1, HF.out.2.2.2.1, HF.out.2.2.2.2.1] at h8
  refine h8.mono ?_
  clear h8
  rintro e w8 ⟨rfl, hr8, hk8⟩
  have HR8 := hid hr8
  have HB8 := hid (show Bw w6 w8 from Below.trans HB7.out (hk8.below HB7.out.size (fun i hi => Nat.le_of_eq hi.symm)))
  clear hr8 hk8
  go_wp2_with fail
  have h9 := HX.out w8 B tb w6.heap.size 2 (HT6.out.bw HB8.out) HR8.out (by decide)
  unfold NextPost at h9
  rw [HF.out.2.2.2.2.2.1, HF.out.2.2.2.2.2.2.1, HF.out.2.2.2.2.2.2.2.1] at h9
  refine h9.mono ?_
  clear h9
  rintro e w9 ⟨rfl, hr9, hk9⟩
  have HR9 := hid hr9
  have HB9 := hid (show Bw w6 w9 from Below.trans HB8.out (hk9.below HB8.out.size (fun i hi => Nat.le_of_eq hi.symm)))
  clear hr9 hk9
  have HC9 := hid (((HB4.out.trans HB6.out).trans HB9.out).has HCD.out)
  have HL9 := hid (HB9.out.has HLB.out)
  have hl2 : w9.cell? ⟨lb, 2, none⟩ = some (.int .i64 2) := HL9.out.cell 2
  have hl3 : w9.cell? ⟨lb, 3, none⟩ = some (.int .i64 1) := HL9.out.cell 3
  have HBA := hid (show Bw w w9 from HB2.out.trans ((HB4.out.trans HB6.out).trans HB9.out))
  clear HC HN HL HX HCD HLB HT6 HR HR8 HB2 HB4 HB6 HB7 HB8 HB9 hsz
  go_wp2_with fail
  have hA := Has.new w9 3 #[.int .i64 2, .int .i64 0, .int .i64 6, .int .i64 7]
  refine (ints_any (some ⟨rb, 0, none⟩) (some ⟨w9.heap.size, 0, none⟩) 4 4 4 4 (by decide) [2, 0, 6, 7] [2, 0, 6, 7] (hid rfl) (hid rfl) _ (zs_has (HC9.out.alloc _)) (zs_has hA)).mono ?_
  clear hA
  rintro e w10 ⟨rfl, hb10⟩
  have HB10 := hid (Bw.trans ((Bw.refl w9).alloc (.cells #[.int .i64 2, .int .i64 0, .int .i64 6, .int .i64 7] 3)) hb10)
  have k2 : w10.cell? ⟨lb, 2, none⟩ = some (.int .i64 2) := (HB10.out.has HL9.out).cell 2
  have k3 : w10.cell? ⟨lb, 3, none⟩ = some (.int .i64 1) := (HB10.out.has HL9.out).cell 3
  have HR10 := hid (HB10.out.has HR9.out)
  have HBB := hid (HBA.out.trans HB10.out)
  clear hb10 hl2 hl3
  go_wp2_with fail
  have hA := Has.new w10 3 #[.int .i64 1, .int .i64 1, .int .i64 1]
  refine (HK.out _ _ hA).mono ?_
  clear hA
  rintro e w11 ⟨rfl, hb11⟩
  rw [HF.out.1]
  have HB11 := hid (Bw.trans ((Bw.refl w10).alloc (.cells #[.int .i64 1, .int .i64 1, .int .i64 1] 3)) hb11)
  have HR11 := hid (HB11.out.has HR10.out)
  have HBC := hid (HBB.out.trans HB11.out)
  clear hb11 k2 k3
  go_wp2_with fail
  refine (at_any w6.heap.size ⟨#[5]⟩ 4 _ HR11.out).mono ?_
  rintro e w12 ⟨rfl, rfl⟩
  go_wp2
  go_ret
  exact ⟨rfl, HBC.out⟩
end Go.Proofs.Ytcacnidlfjglbaa

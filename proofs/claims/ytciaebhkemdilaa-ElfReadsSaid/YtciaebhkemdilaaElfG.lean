/- All sections' headers (contract of the method). -/
import Derived.Test.YtciaebhkemdilaaElfF
import Derived.Test.YtciaebhkemdilaaKitS
namespace Go.Proofs.Ytciaebhkemdilaa
open Go.RowKit
set_option linter.unusedVariables false
set_option linter.unusedSimpArgs false
theorem horn_all {f : Nat → Nat} : ∀ {k : Nat}, (∀ i, i < k → f i = 0) → horn f k = 0
  | 0, _ => rfl
  | k + 1, h => by rw [horn, horn_all (fun i hi => h i (by omega)), h k (by omega)]
theorem horn_is0 {f : Nat → Nat} : ∀ {k : Nat}, horn f k = 0 → ∀ i, i < k → f i = 0
  | 0, _, i, hi => by omega
  | k + 1, h, i, hi => by
    rw [horn] at h
    by_cases e : i = k
    · subst e; omega
    · exact horn_is0 (k := k) (by omega) i (by omega)
theorem n8_zero (s : ByteArray) (p : Nat) : n8 s p = 0 ↔ ∀ i, i < 8 → bt s (p + i) = 0 := by
  unfold n8 numAt
  constructor
  · intro h i hi
    have := horn_is0 h (7 - i) (by omega)
    rw [dig, if_neg (by decide), show p + 8 - 1 - (7 - i) = p + i by omega] at this
    exact this
  · intro h
    refine horn_all fun i hi => ?_
    rw [dig, if_neg (by decide), show p + 8 - 1 - i = p + (7 - i) by omega]
    exact h _ (by omega)
theorem secInfo : (Try.prog.info? 95).map (fun i => (i.zero, i.size, i.bytes)) = some (some (.agg #[.string ⟨#[]⟩, .int .i64 0, .int .u64 0, .int .u64 0, .string ⟨#[]⟩, .int .i64 0, .int .i64 0, .int .i64 0, .int .u64 0, .int .u64 0, .int .i64 0, .string ⟨#[]⟩]), 12, 120) := by kernel_rfl
def zSec : Array Value := #[.string ⟨#[]⟩, .int .i64 0, .int .u64 0, .int .u64 0, .string ⟨#[]⟩, .int .i64 0, .int .i64 0, .int .i64 0, .int .u64 0, .int .u64 0, .int .i64 0, .string ⟨#[]⟩]
theorem make_secs (N : Nat) (hN : N ≤ 2000) (w : World) : (Instr.makeSlice 91 (.int .i64 N) (.int .i64 N)).run Try.prog w = .ok (.slice (some ⟨w.heap.size, 0, none⟩) N N) (w.alloc (.cells (madeCells zSec (N * 12)) 95)) := by
  obtain ⟨i0, hinf, hz0, hz1, hz2⟩ := info_parts secInfo
  have := run_makeSlice (P := Try.prog) (w := w) 91 95 i0 (.agg zSec) Try.underlying91 hinf hz0 .i64 .i64 N N (by omega) (by omega) (by rw [hz1]; simp; omega) (by rw [hz2]; omega) (by omega)
  rw [this, hz1]
  simp only [Int.toNat_natCast]
  rfl
/-- What sections does. -/
def SecsQ (s : ByteArray) (g p n : Nat) (w : World) (e : Ending) (w' : World) : Prop :=
  Keeps (· = g) w w' ∧ (((∀ i, i < 64 → bt s (p + i) = 0) ∧ firstE (fun i => secE s (p + 64 * i)) (n - 1) 1 = 0 ∧ ∃ lb, e = .returned (.slice (some ⟨lb, 0, none⟩) (n - 1) (n - 1)) ∧ w.heap.size ≤ lb ∧ RowZ 95 12 w' lb (n - 1) (fun i => secV s (p + 64 * (i + 1)) ⟨#[]⟩))
    ∨ ((¬ ∀ i, i < 64 → bt s (p + i) = 0) ∧ e = pan 3) ∨ ((∀ i, i < 64 → bt s (p + i) = 0) ∧ firstE (fun i => secE s (p + 64 * i)) (n - 1) 1 ≠ 0 ∧ e = pan (firstE (fun i => secE s (p + 64 * i)) (n - 1) 1)))
set_option maxRecDepth 100000 in
set_option maxHeartbeats 8000000 in
theorem sections_any (s : ByteArray) (hs : s.size ≤ lim) (g b : Nat) (hb : b ≤ 281474976710656) (p n : Nat) (hn2 : 2 ≤ n) (hn : n ≤ 1002) (hp : p + 64 * n ≤ s.size) (w : World) (hr : Rdr w g b (s.extract p (p + 64 * n)) 0) :
    Calls Try.prog 46 #[.agg #[.int .i64 0, .string s], .pointer (some ⟨g, 0, none⟩), .int .i64 n] w (SecsQ s g p n w) := by
  have hl : s.size ≤ 281474976710656 := hs
  have hT : (s.extract p (p + 64 * n)).size = 64 * n := by simp; omega
  have HSEC := hid (fun i (hi : i < n) W (h : Rdr W g b (s.extract p (p + 64 * n)) (64 * i)) => section_any s hs g b hb p (64 * n) (64 * i) hp (by omega) W h)
  have HLONG := hid (fun j (hj : j < 8) W (h : Rdr W g b (s.extract p (p + 64 * n)) (8 * j)) => by
    have h1 := long_any (w := W) hb (show (s.extract p (p + 64 * n)).size ≤ lim by rw [hT]; unfold lim; omega) (q := 8 * j) (by omega) h
    have h2 : n8 (s.extract p (p + 64 * n)) (8 * j) = n8 s (p + 8 * j) := num_part s p (64 * n) (8 * j) 8 (by omega) hp
    rw [h2] at h1
    exact h1)
  have HZB := hid (fun e w' (hk : Keeps (· = g) w w') (h : ¬ ∀ i, i < 64 → bt s (p + i) = 0) (he : e = pan 3) => (show SecsQ s g p n w e w' from ⟨hk, .inr (.inl ⟨h, he⟩)⟩))
  have HGD := hid (fun e w' (hk : Keeps (· = g) w w') (h : ∀ i, i < 64 → bt s (p + i) = 0) (h2 : firstE (fun i => secE s (p + 64 * i)) (n - 1) 1 = 0) (x : ∃ lb, e = .returned (.slice (some ⟨lb, 0, none⟩) (n - 1) (n - 1)) ∧ w.heap.size ≤ lb ∧ RowZ 95 12 w' lb (n - 1) (fun i => secV s (p + 64 * (i + 1)) ⟨#[]⟩)) => (show SecsQ s g p n w e w' from ⟨hk, .inl ⟨h, h2, x⟩⟩))
  have HBD := hid (fun e w' (hk : Keeps (· = g) w w') (h : ∀ i, i < 64 → bt s (p + i) = 0) (E : Int) (h2 : firstE (fun i => secE s (p + 64 * i)) (n - 1) 1 = E) (h3 : E ≠ 0) (he : e = pan E) => (show SecsQ s g p n w e w' from ⟨hk, .inr (.inr ⟨h, by rw [h2]; exact h3, by rw [h2]; exact he⟩)⟩))
  have HZ8 := hid (fun j => n8_zero s (p + 8 * j))
  obtain ⟨F, hF⟩ : ∃ F : Nat → Int, F = fun i => secE s (p + 64 * i) := ⟨_, rfl⟩
  rw [← hF] at HGD HBD
  have HF := hid (fun i => (show F i = secE s (p + 64 * i) by rw [hF]))
  clear hF
  obtain ⟨T, hTT⟩ : ∃ T, s.extract p (p + 64 * n) = T := ⟨_, rfl⟩
  rw [hTT] at HSEC HLONG hr
  clear hTT hT
  obtain ⟨m, hm⟩ : ∃ m, n = m + 1 := ⟨n - 1, by omega⟩
  have HM := hid hm
  rw [show n - 1 = m by omega] at HGD HBD
  have hmk := make_secs m (by omega)
  have v1 : IntKind.i64.wrap ((n : Int) - 1) = (m : Int) := by rw [IntWalk.i64_in _ (by omega)]; omega
  have HFI := hid (Has.new w 49 #[.int .i64 0, .string s])
  have HK0 := hid (show Keeps (· = g) w _ from .of_bw ((Bw.refl w).alloc (.cells #[.int .i64 0, .string s] 49)))
  have HR0 := hid (show Rdr _ g b T 0 from hr.alloc (.cells #[.int .i64 0, .string s] 49))
  obtain ⟨fb, hfb⟩ : ∃ fb, w.heap.size = fb := ⟨_, rfl⟩
  rw [hfb] at HFI
  have HG := hid (show g < fb by rw [← hfb]; exact Has.lt hr)
  have HFB := hid hfb
  clear hr hm
  go_enter Try.func46, Try.ntmps46
  go_wp2
  generalize w.alloc (.cells #[.int .i64 0, .string s] 49) = w1 at *
  clear hfb
  go_loopw [9] (fun vj wr => ∃ j : Nat, j ≤ 8 ∧ vj = .int .i64 j ∧ Rdr wr g b T (8 * j) ∧ Keeps (· = g) w wr ∧ Has wr fb 49 #[.int .i64 0, .string s] ∧ Hid (∀ i, i < 8 * j → bt s (p + i) = 0)) (fun vj _ => 8 - (intOf vj).toNat)
  case atStart => exact ⟨0, by omega, rfl, HR0.out, HK0.out, HFI.out, hid (fun i hi => by omega)⟩
  case round =>
    rename World => wr
    obtain ⟨j, hj, rfl, hrd, hke, hfi, HZ⟩ := hrel
    have HRD := hid hrd
    have HKE := hid hke
    have HFI2 := hid hfi
    clear hrd hke hfi
    by_cases hlt : j < 8
    · have c0 : (j : Int) < 8 := by omega
      go_wp2_with fail
      refine (HLONG.out j hlt _ HRD.out).mono ?_
      rintro e w2 ⟨rfl, h1, h2⟩
      have H2 := hid h1
      have HK2 := hid (HKE.out.trans h2)
      have HF2 := hid (h2.has HFI2.out (show fb ≠ g by have := HG.out; omega))
      clear h1 h2
      by_cases hz : n8 s (p + 8 * j) = 0
      · have HN := hid (show ∀ i, i < 8 * (j + 1) → bt s (p + i) = 0 from fun i hi => by
          by_cases h : i < 8 * j
          · exact HZ.out i h
          · have := (HZ8.out j).1 hz (i - 8 * j) (by omega)
            rw [show p + 8 * j + (i - 8 * j) = p + i by omega] at this
            exact this)
        have t0 : ((n8 s (p + 8 * j) : Int) == 0) = true := beq_iff_eq.2 (by omega)
        clear hz
        go_wp2_with fail
        refine (demand_ok 3 _).mono ?_
        rintro e w3 ⟨rfl, rfl⟩
        go_wp2
        exact ⟨⟨j + 1, by omega, by go_num, by rw [Nat.mul_succ]; exact H2.out, HK2.out, HF2.out, HN⟩, by simp [intOf]; omega⟩
      · have t0 : ((n8 s (p + 8 * j) : Int) == 0) = false := beq_eq_false_iff_ne.2 (by omega)
        have HB := hid (HZB.out (pan 3) w2 HK2.out (fun h => hz ((HZ8.out j).2 fun i hi => by
          have := h (8 * j + i) (by omega)
          rwa [← Nat.add_assoc] at this)) rfl)
        clear hz
        go_wp2_with fail
        refine (demand_bad 3 _).mono ?_
        rintro e w3 ⟨rfl, rfl⟩
        exact ⟨rfl, HB.out⟩
    · have HJ8 := hid (show 8 * j = 64 * 1 by omega)
      have c8 : ¬ (j : Int) < 8 := by omega
      have HZA := hid (show ∀ i, i < 64 → bt s (p + i) = 0 from fun i hi => HZ.out i (by rw [HJ8.out]; exact hi))
      clear HZ
      have HRW := hid (show RowZ 95 12 (wr.alloc (.cells (madeCells zSec (m * 12)) 95)) wr.heap.size m (fun _ => zSec.toList) from RowZ.made wr 95 zSec m)
      have HKA := hid (show Keeps (· = g) w _ from HKE.out.trans (.of_bw ((Bw.refl wr).alloc (.cells (madeCells zSec (m * 12)) 95))))
      have HRA := hid (show Rdr _ g b T (64 * 1) from HJ8.out ▸ HRD.out.alloc (.cells (madeCells zSec (m * 12)) 95))
      have HFA := hid (HFI2.out.alloc (.cells (madeCells zSec (m * 12)) 95))
      have HLB := hid (show w.heap.size ≤ wr.heap.size ∧ g < wr.heap.size ∧ fb < wr.heap.size from ⟨HKE.out.size, Has.lt HRD.out, HFI2.out.lt⟩)
      obtain ⟨lb, hlb⟩ : ∃ lb, wr.heap.size = lb := ⟨_, rfl⟩
      rw [hlb] at HRW HLB
      go_wp2
      generalize wr.alloc (.cells (madeCells zSec (m * 12)) 95) = wa at *
      clear hlb hmk v1 c8 hlt hj
      go_loopw [21] (fun vj wr => ∃ k : Nat, k ≤ m ∧ vj = .int .i64 k ∧ Rdr wr g b T (64 * (k + 1)) ∧ Keeps (· = g) w wr ∧ Has wr fb 49 #[.int .i64 0, .string s] ∧ RowZ 95 12 wr lb m (fun i => if i < k then secV s (p + 64 * (i + 1)) ⟨#[]⟩ else zSec.toList) ∧ Hid (firstE F (m - k) (k + 1) = firstE F m 1)) (fun vj _ => m - (intOf vj).toNat)
      case atStart => exact ⟨0, by omega, rfl, HRA.out, HKA.out, HFA.out, HRW.out.congr (fun i hi => by rw [if_neg (by omega)]), hid rfl⟩
      case round =>
        rename World => wr
        obtain ⟨k, hk, rfl, hrd, hke, hfi, hrw, HE⟩ := hrel
        have HRD := hid hrd
        have HKE := hid hke
        have HFI2 := hid hfi
        have HRW2 := hid hrw
        by_cases hlt : k < m
        · have c0 : (k : Int) < m := by omega
          have HLT := hid hlt
          have HV := hid (show wrap64 ((k : Int) + 1) = ((k + 1 : Nat) : Int) by have h1 := hlt; have h2 := HM.out; unfold wrap64; omega)
          have f0 : wr.cell? ⟨fb, 0, none⟩ = some (.int .i64 0) := hfi.cell 0
          have f1 : wr.cell? ⟨fb, 1, none⟩ = some (.string s) := hfi.cell 1
          clear hrd hke hfi hrw
          go_wp2_with fail
          refine (HSEC.out (k + 1) (by rw [HM.out]; omega) _ HRD.out).mono ?_
          rintro e w2 ⟨h2, hx⟩
          have HK2 := hid (HKE.out.trans h2)
          have HF2 := hid (h2.has HFI2.out (show fb ≠ g by have := HG.out; omega))
          have HW2 := hid (HRW2.out.keeps h2 (show ¬ lb = g by have := HLB.out; omega))
          clear h2 f0 f1
          rename_i Kx hKx
          rcases hx with ⟨he, rfl, hr2⟩ | ⟨he, rfl⟩
          case inr =>
            have hE : firstE F m 1 = secE s (p + 64 * (k + 1)) := by
              rw [← HE.out, first_bad (by omega) (by rw [HF.out]; exact he), HF.out]
            exact ⟨rfl, HBD.out _ _ HK2.out HZA.out _ hE he rfl⟩
          have HR2 := hid hr2
          have HE2 := hid (show firstE F (m - (k + 1)) (k + 1 + 1) = firstE F m 1 from by
            rw [← HE.out, first_next (k := m - k) (by omega) (by rw [HF.out]; exact he)]
            congr 1)
          clear hr2 he
          have HTH := hid (HW2.out.there hlt)
          have HW3 := hid (HW2.out.set hlt (show (secV s (p + 64 * (k + 1)) ⟨#[]⟩).length = 12 from rfl))
          have HK3 := hid (HK2.out.seg (show w.heap.size ≤ lb by have := HLB.out; omega) (k * 12) (secV s (p + 64 * (k + 1)) ⟨#[]⟩))
          have HF3 := hid (HF2.out.seg_far (show fb ≠ lb by have := HLB.out; omega) (k * 12) (secV s (p + 64 * (k + 1)) ⟨#[]⟩))
          have HR3 := hid (show Rdr _ g b T _ from Has.seg_far HR2.out (show g ≠ lb by have := HLB.out; omega) (k * 12) (secV s (p + 64 * (k + 1)) ⟨#[]⟩))
          unfold secV at HW3 HK3 HF3 HR3
          refine hKx _ _ ?_
          clear hKx
          refine wpList_plain rfl fun K hK => ?_
          go_simp
          refine hK _ _ ?_
          clear hK K
          (refine wpList_store_mid rfl 95 (.tmp 29) (.tmp 28) rfl lb (k * 12) #[.string ⟨#[]⟩, .int .i64 (n4 s (p + 64 * (k + 1) + 4)), .int .u64 (n8 s (p + 64 * (k + 1) + 8)), .int .u64 (n8 s (p + 64 * (k + 1) + 16)), .string ⟨#[]⟩, .int .i64 (secZ s (p + 64 * (k + 1))), .int .i64 (n4 s (p + 64 * (k + 1) + 40)), .int .i64 (n4 s (p + 64 * (k + 1) + 44)), .int .u64 (n8 s (p + 64 * (k + 1) + 48)), .int .u64 (n8 s (p + 64 * (k + 1) + 56)), .int .i64 (n4 s (p + 64 * (k + 1))), .string (secD s (p + 64 * (k + 1)))] rfl rfl HTH.out inf_section (by simp only [List.all_toArray, List.all_cons, List.all_nil]; rfl) ?_)
          generalize World.setCells w2 _ _ _ = w3 at *
          go_wp2
          exact ⟨⟨k + 1, HLT.out, by rw [HV.out], HR3.out, HK3.out, HF3.out, HW3.out.congr (fun i hi => by
            by_cases e : i = k
            · subst e
              refine Eq.trans (if_pos rfl) (Eq.trans ?_ (if_pos (by omega)).symm)
              rfl
            · rw [if_neg e]
              by_cases h : i < k
              · rw [if_pos h, if_pos (by omega)]
                rfl
              · rw [if_neg h, if_neg (by omega)]), HE2.out⟩, by have h1 := HLT.out; rw [HV.out]; simp only [intOf, Int.toNat_natCast]; omega⟩
        · obtain rfl : k = m := by omega
          have HFE := hid (show firstE F k 1 = 0 from by
            have := HE.out
            rw [Nat.sub_self, firstE] at this
            exact this.symm)
          have c0 : ¬ (k : Int) < k := by omega
          clear hrd hke hfi hrw
          go_wp2
          go_returns
          exact HGD.out _ _ HKE.out HZA.out HFE.out ⟨lb, rfl, by have := HLB.out; omega, HRW2.out.congr (fun i hi => if_pos hi)⟩
end Go.Proofs.Ytciaebhkemdilaa

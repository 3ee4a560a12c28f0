/- The document's Read (contract of the function). -/
import Derived.Test.YtciaebhkemdilaaElfRc
import Derived.Test.YtciaebhkemdilaaElfRe
import Derived.Test.YtciaebhkemdilaaElfQd
import Derived.Test.YtciaebhkemdilaaElfZg
import Derived.Test.YtciaebhkemdilaaElfTg
import Derived.Deep.DeepCutAuto
namespace Go.Proofs.Ytciaebhkemdilaa
open Go.RowKit Go.BigFrame
set_option linter.unusedVariables false
set_option linter.unusedSimpArgs false
def DReadQ (s : ByteArray) (w : World) (e : Ending) (w' : World) : Prop := Bw w w' ∧ ∃ a c b d, e = .returned (.tuple #[.agg (elfV (readM s) a c b d), .int .i64 (readE s)]) ∧ ElfAt w' (readM s) a b
theorem str_yes {a b : ByteArray} (h : a = b) : (a.toList == b.toList) = true := by rw [h, beq_iff_eq]
set_option maxRecDepth 100000 in
set_option maxHeartbeats 16000000 in
theorem dread_any (s : ByteArray) (hs : s.size ≤ 100000) (w : World) :
    Calls Try.prog 11 #[.string s] w (DReadQ s w) := by
  have hl : s.size ≤ lim := by unfold lim; omega
  have HBD := hid (fun e w' (E : Int) (hb : Bw w w') (h0 : readE s = E) (h1 : E ≠ 0) (he : e = .returned (.tuple #[.agg #[.int .i64 0, .int .i64 0, .int .u64 0, .int .i64 0, .slice none 0 0, .slice none 0 0], .int .i64 E])) => (show DReadQ s w e w' from ⟨hb, none, 0, none, 0, by rw [readM_bad (by rw [h0]; exact h1), h0]; exact he, by rw [readM_bad (by rw [h0]; exact h1)]; exact ⟨seg_nil _ _, sec_nil _ _⟩⟩))
  have HR1 := hid (Has.new w 27 #[.int .i64 0, .int .i64 0, .int .u64 0, .int .i64 0, .slice none 0 0, .slice none 0 0])
  have HB1 := hid ((Bw.refl w).alloc (.cells #[.int .i64 0, .int .i64 0, .int .u64 0, .int .i64 0, .slice none 0 0, .slice none 0 0] 27))
  obtain ⟨rb, hrb⟩ : ∃ rb, w.heap.size = rb := ⟨_, rfl⟩
  have HRB := hid hrb
  rw [hrb] at HR1
  obtain ⟨ZC, hZC⟩ : ∃ ZC, Obj.cells (madeCells #[.int .u8 0] 9) 5 = ZC := ⟨_, rfl⟩
  have HMS : ∀ W : World, (Instr.makeSlice 40 (.int .i64 9) (.int .i64 9)).run Try.prog W = .ok (.slice (some ⟨W.heap.size, 0, none⟩) 9 9) (W.alloc ZC) := fun W => by rw [← hZC]; exact make_bytes 9 (by decide) W
  have HZ0 : ∀ W : World, Nine (W.alloc ZC) W.heap.size := fun W => ⟨by rw [← hZC]; exact RowM.zeros W 0 9 (by decide) (Nat.zero_le _)⟩
  have HZ1 : ∀ W : World, Nine (W.alloc ZC).drew W.heap.size := fun W => (HZ0 W).bw ((Bw.refl _).drewN 1)
  have HCV := nine_conv
  obtain ⟨z9, hz9⟩ : ∃ z, zerosT 9 = z := ⟨_, rfl⟩
  have zz9 : z9.size = 9 := by rw [← hz9, zerosT_size]
  rw [hz9] at HCV
  have HMAG := hid (show magT = (⟨#[127, 69, 76, 70, 2, 1, 1]⟩ ++ z9 : ByteArray) from by rw [← hz9]; apply ba_ext; decide)
  clear hZC hz9
  go_enter Try.func11, Try.ntmps11
  go_upto_region 1 with fail
  generalize w.alloc (.cells #[.int .i64 0, .int .i64 0, .int .u64 0, .int .i64 0, .slice none 0 0, .slice none 0 0] 27) = w1 at *
  clear hrb
  by_cases h64 : (s.size : Int) < 64
  · have hlt : s.size < 64 := by omega
    go_upto_region 2 with fail
    have HE := hid (show readE s = 2 from by rw [read_hd (by rw [hd_cut hlt]; decide), hd_cut hlt])
    have HPN := hid (HR1.out.set [.int .i64 0, .int .i64 0, .int .u64 0, .int .i64 0, .slice none 0 0, .slice none 0 0] rfl)
    have HBN := hid (HB1.out.set (show w.heap.size ≤ rb by rw [HRB.out]; exact Nat.le_refl _) [.int .i64 0, .int .i64 0, .int .u64 0, .int .i64 0, .slice none 0 0, .slice none 0 0])
    have HTH := hid (HR1.out.there 6 (Nat.le_refl _))
    refine wp_region_list ?_
    refine wpList_plain rfl fun K hK => ?_
    go_simp
    refine hK _ _ ?_
    clear hK K
    refine wpList_store_mid rfl 27 (.tmp 2) (.tmp 20) rfl rb 0 #[.int .i64 0, .int .i64 0, .int .u64 0, .int .i64 0, .slice none 0 0, .slice none 0 0] rfl rfl HTH.out inf_Elf (by simp only [List.all_toArray, List.all_cons, List.all_nil]; rfl) ?_
    change wpList _ _ _ _ _ (w1.setCells rb 0 [.int .i64 0, .int .i64 0, .int .u64 0, .int .i64 0, .slice none 0 0, .slice none 0 0])
    generalize w1.setCells rb 0 [.int .i64 0, .int .i64 0, .int .u64 0, .int .i64 0, .slice none 0 0, .slice none 0 0] = wz at *
    go_wp2_with fail
    have p0 := HPN.out.cell 0
    have p1 := HPN.out.cell 1
    have p2 := HPN.out.cell 2
    have p3 := HPN.out.cell 3
    have p4 := HPN.out.cell 4
    have p5 := HPN.out.cell 5
    simp only [List.getElem?_toArray, List.getElem?_cons_zero, List.getElem?_cons_succ] at p0 p1 p2 p3 p4 p5
    refine bodyPost_ret (by simp [results, Try.results11, go_sem, p0, p1, p2, p3, p4, p5]; try rfl) rfl ?_
    exact HBD.out _ _ 2 HBN.out HE.out (by decide) rfl
  have HG64 := hid (show ¬ s.size < 64 by omega)
  have HHD := hid (fun (h : ¬ HeadOk s) => (show readE s = 3 from by rw [read_hd (by rw [hd_bad HG64.out h]; decide), hd_bad HG64.out h]))
  have HOK := hid (fun (a1 : s.extract 0 16 = magT) (a2 : n4 s 20 = 1) (a3 : n2 s 52 = 64) (a4 : n2 s 54 = 56) (a5 : n2 s 58 = 64) (a6 : (n2 s 62 : Int) = (n2 s 60 : Int) - 1) (a7 : 2 ≤ n2 s 60) (a8 : n2 s 60 ≤ 1002) (a9 : n2 s 56 ≤ 1000) => (show HeadOk s from ⟨a1, a2, a3, a4, a5, a6, a7, a8, a9⟩))
  have HNO := hid (fun (h : HeadOk s) => (show s.extract 0 16 = magT ∧ n4 s 20 = 1 ∧ n2 s 52 = 64 ∧ n2 s 54 = 56 ∧ n2 s 58 = 64 ∧ (n2 s 62 : Int) = (n2 s 60 : Int) - 1 ∧ 2 ≤ n2 s 60 ∧ n2 s 60 ≤ 1002 ∧ n2 s 56 ≤ 1000 from ⟨h.mag, h.ver, h.hsz, h.psz, h.ssz, h.nam, h.two, h.few, h.seg⟩))
  have N16 := hid (fun W => (show Calls Try.prog 22 #[.string s, .int .i64 16, .int .i64 2] W fun e w' => e = .returned (.int .u64 (n2 s 16 : Nat)) ∧ W = w' from num2_any s hl 16 (by omega) W))
  have l16 := n2_lt s 16
  obtain ⟨y16, hy16⟩ : ∃ x, n2 s 16 = x := ⟨_, rfl⟩
  rw [hy16] at N16 l16
  have HY16 := hid hy16
  have N18 := hid (fun W => (show Calls Try.prog 22 #[.string s, .int .i64 18, .int .i64 2] W fun e w' => e = .returned (.int .u64 (n2 s 18 : Nat)) ∧ W = w' from num2_any s hl 18 (by omega) W))
  have l18 := n2_lt s 18
  obtain ⟨y18, hy18⟩ : ∃ x, n2 s 18 = x := ⟨_, rfl⟩
  rw [hy18] at N18 l18
  have HY18 := hid hy18
  have N20 := hid (fun W => (show Calls Try.prog 22 #[.string s, .int .i64 20, .int .i64 4] W fun e w' => e = .returned (.int .u64 (n4 s 20 : Nat)) ∧ W = w' from num4_any s hl 20 (by omega) W))
  have l20 := n4_lt s 20
  obtain ⟨y20, hy20⟩ : ∃ x, n4 s 20 = x := ⟨_, rfl⟩
  rw [hy20] at N20 l20 HOK HNO
  have HY20 := hid hy20
  have N24 := hid (fun W => (show Calls Try.prog 22 #[.string s, .int .i64 24, .int .i64 8] W fun e w' => e = .returned (.int .u64 (n8 s 24 : Nat)) ∧ W = w' from num8_any s hl 24 (by omega) W))
  have l24 := n8_lt s 24
  obtain ⟨y24, hy24⟩ : ∃ x, n8 s 24 = x := ⟨_, rfl⟩
  rw [hy24] at N24 l24
  have HY24 := hid hy24
  have N32 := hid (fun W => (show Calls Try.prog 22 #[.string s, .int .i64 32, .int .i64 8] W fun e w' => e = .returned (.int .u64 (n8 s 32 : Nat)) ∧ W = w' from num8_any s hl 32 (by omega) W))
  have l32 := n8_lt s 32
  obtain ⟨y32, hy32⟩ : ∃ x, n8 s 32 = x := ⟨_, rfl⟩
  rw [hy32] at N32 l32
  have HY32 := hid hy32
  have N40 := hid (fun W => (show Calls Try.prog 22 #[.string s, .int .i64 40, .int .i64 8] W fun e w' => e = .returned (.int .u64 (n8 s 40 : Nat)) ∧ W = w' from num8_any s hl 40 (by omega) W))
  have l40 := n8_lt s 40
  obtain ⟨y40, hy40⟩ : ∃ x, n8 s 40 = x := ⟨_, rfl⟩
  rw [hy40] at N40 l40
  have HY40 := hid hy40
  have N48 := hid (fun W => (show Calls Try.prog 22 #[.string s, .int .i64 48, .int .i64 4] W fun e w' => e = .returned (.int .u64 (n4 s 48 : Nat)) ∧ W = w' from num4_any s hl 48 (by omega) W))
  have l48 := n4_lt s 48
  obtain ⟨y48, hy48⟩ : ∃ x, n4 s 48 = x := ⟨_, rfl⟩
  rw [hy48] at N48 l48
  have HY48 := hid hy48
  have N52 := hid (fun W => (show Calls Try.prog 22 #[.string s, .int .i64 52, .int .i64 2] W fun e w' => e = .returned (.int .u64 (n2 s 52 : Nat)) ∧ W = w' from num2_any s hl 52 (by omega) W))
  have l52 := n2_lt s 52
  obtain ⟨y52, hy52⟩ : ∃ x, n2 s 52 = x := ⟨_, rfl⟩
  rw [hy52] at N52 l52 HOK HNO
  have HY52 := hid hy52
  have N54 := hid (fun W => (show Calls Try.prog 22 #[.string s, .int .i64 54, .int .i64 2] W fun e w' => e = .returned (.int .u64 (n2 s 54 : Nat)) ∧ W = w' from num2_any s hl 54 (by omega) W))
  have l54 := n2_lt s 54
  obtain ⟨y54, hy54⟩ : ∃ x, n2 s 54 = x := ⟨_, rfl⟩
  rw [hy54] at N54 l54 HOK HNO
  have HY54 := hid hy54
  have N56 := hid (fun W => (show Calls Try.prog 22 #[.string s, .int .i64 56, .int .i64 2] W fun e w' => e = .returned (.int .u64 (n2 s 56 : Nat)) ∧ W = w' from num2_any s hl 56 (by omega) W))
  have l56 := n2_lt s 56
  obtain ⟨y56, hy56⟩ : ∃ x, n2 s 56 = x := ⟨_, rfl⟩
  rw [hy56] at N56 l56 HOK HNO
  have HY56 := hid hy56
  have N58 := hid (fun W => (show Calls Try.prog 22 #[.string s, .int .i64 58, .int .i64 2] W fun e w' => e = .returned (.int .u64 (n2 s 58 : Nat)) ∧ W = w' from num2_any s hl 58 (by omega) W))
  have l58 := n2_lt s 58
  obtain ⟨y58, hy58⟩ : ∃ x, n2 s 58 = x := ⟨_, rfl⟩
  rw [hy58] at N58 l58 HOK HNO
  have HY58 := hid hy58
  have N60 := hid (fun W => (show Calls Try.prog 22 #[.string s, .int .i64 60, .int .i64 2] W fun e w' => e = .returned (.int .u64 (n2 s 60 : Nat)) ∧ W = w' from num2_any s hl 60 (by omega) W))
  have l60 := n2_lt s 60
  obtain ⟨y60, hy60⟩ : ∃ x, n2 s 60 = x := ⟨_, rfl⟩
  rw [hy60] at N60 l60 HOK HNO
  have HY60 := hid hy60
  have N62 := hid (fun W => (show Calls Try.prog 22 #[.string s, .int .i64 62, .int .i64 2] W fun e w' => e = .returned (.int .u64 (n2 s 62 : Nat)) ∧ W = w' from num2_any s hl 62 (by omega) W))
  have l62 := n2_lt s 62
  obtain ⟨y62, hy62⟩ : ∃ x, n2 s 62 = x := ⟨_, rfl⟩
  rw [hy62] at N62 l62 HOK HNO
  have HY62 := hid hy62
  obtain ⟨X16, hX16⟩ : ∃ X, s.extract 0 16 = X := ⟨_, rfl⟩
  have HX16 := hid hX16
  obtain ⟨MG, hMG⟩ : ∃ X : ByteArray, ⟨#[127, 69, 76, 70, 2, 1, 1]⟩ ++ z9 = X := ⟨_, rfl⟩
  have HMG := hid hMG
  rw [hMG] at HMAG
  rw [hX16, HMAG.out] at HOK HNO
  have hMGz : MG.size = 16 := by rw [← hMG, ByteArray.size_append, zz9]; rfl
  clear hy16 hy18 hy20 hy24 hy32 hy40 hy48 hy52 hy54 hy56 hy58 hy60 hy62 hX16
  have u56 : IntKind.i64.wrap (y56 : Int) = y56 := IntWalk.i64_in _ (by omega)
  have u60 : IntKind.i64.wrap (y60 : Int) = y60 := IntWalk.i64_in _ (by omega)
  have u62 : IntKind.i64.wrap (y62 : Int) = y62 := IntWalk.i64_in _ (by omega)
  have u61 : IntKind.i64.wrap ((y60 : Int) - 1) = (y60 : Int) - 1 := IntWalk.i64_in _ (by omega)
  have hlen16 : (16 : Int) ≤ (s.size : Int) := by omega
  obtain ⟨V, hV⟩ : ∃ V, (!(decide (X16 = MG) && (decide (y20 = 1) && (decide (y52 = 64) && (decide (y54 = 56) && decide (y58 = 64)))))) = V := ⟨_, rfl⟩
  have HV := hid hV
  clear hV
  go_upto_region 5 with (go_at_call 22; with_reducible (first | refine (N56.out _).mono ?_ | refine (N60.out _).mono ?_); rintro e w2 ⟨rfl, rfl⟩)
  have HQA := hid (show Bw w1 (w1.alloc ZC).drew from ((Bw.refl w1).alloc ZC).drewN 1)
  go_cut [52] from 27 to 52 (fun v W => v = .bool V ∧ Bw w1 W)
  case first =>
    by_cases hm : X16 = MG
    case neg =>
      have m1 : ((s.extract 0 16).toList == MG.toList) = false := by rw [HX16.out]; exact str_ne hm
      refine wp_region_any (by kernel_rfl) ?_
      refine wpAny_take (i := 0) (v := .string s) rfl (by kernel_rfl) (by kernel_rfl) (by kernel_rfl) (fun _ _ _ h => h) (Or.inl ⟨by rfl, fun w => by go_simp⟩) ?_
      simp only [Act.put, List.setIfInBounds_toArray, List.set_cons_zero, List.set_cons_succ]
      refine wpAny_take (i := 1) (v := .string (s.extract 0 16)) rfl (by kernel_rfl) (by kernel_rfl) (by kernel_rfl) (fun _ _ _ h => h) (Or.inl ⟨by rfl, fun w => by go_simp⟩) ?_
      simp only [Act.put, List.setIfInBounds_toArray, List.set_cons_zero, List.set_cons_succ]
      refine wpAny_ready (rs := [2]) (by kernel_rfl) (by simp) ?_
      refine AllReady.cons rfl (fun K hK => ?_) AllReady.nil
      go_simp
      refine hK _ _ ?_
      clear hK K
      refine wpAny_ready (rs := [3]) (by kernel_rfl) (by simp) ?_
      refine AllReady.cons rfl (fun K hK => ?_) AllReady.nil
      go_simp
      refine hK _ _ ?_
      clear hK K
      refine wpAny_ready (rs := [4]) (by kernel_rfl) (by simp) ?_
      refine AllReady.cons rfl (fun K hK => ?_) AllReady.nil
      go_simp
      refine hK _ _ ?_
      clear hK K
      refine wpAny_ready (rs := [5]) (by kernel_rfl) (by simp) ?_
      refine AllReady.cons rfl (fun K hK => ?_) AllReady.nil
      go_simp
      refine hK _ _ ?_
      clear hK K
      refine wpAny_ready (rs := [6]) (by kernel_rfl) (by simp) ?_
      refine AllReady.cons rfl (fun K hK => ?_) AllReady.nil
      go_simp
      refine hK _ _ ?_
      clear hK K
      refine wpAny_ready (rs := [7]) (by kernel_rfl) (by simp) ?_
      refine AllReady.cons rfl (fun K hK => ?_) AllReady.nil
      go_simp
      refine hK _ _ ?_
      clear hK K
      refine wpAny_ready (rs := [8]) (by kernel_rfl) (by simp) ?_
      refine AllReady.cons rfl (fun K hK => ?_) AllReady.nil
      go_simp
      refine hK _ _ ?_
      clear hK K
      refine wpAny_ready (rs := [9]) (by kernel_rfl) (by simp) ?_
      refine AllReady.cons rfl (fun K hK => ?_) AllReady.nil
      go_simp
      refine hK _ _ ?_
      clear hK K
      refine wpAny_ready (rs := [10]) (by kernel_rfl) (by simp) ?_
      refine AllReady.cons rfl (fun K hK => ?_) AllReady.nil
      go_simp
      refine hK _ _ ?_
      clear hK K
      refine wpAny_ready (rs := [11]) (by kernel_rfl) (by simp) ?_
      refine AllReady.cons rfl (fun K hK => ?_) AllReady.nil
      go_simp
      refine hK _ _ ?_
      clear hK K
      refine wpAny_ready (rs := [12]) (by kernel_rfl) (by simp) ?_
      refine AllReady.cons rfl (fun K hK => ?_) AllReady.nil
      go_simp
      refine hK _ _ ?_
      clear hK K
      refine wpAny_ready (rs := [13]) (by kernel_rfl) (by simp) ?_
      refine AllReady.cons rfl (fun K hK => ?_) AllReady.nil
      go_simp
      refine hK _ _ ?_
      clear hK K
      refine wpAny_ready (rs := [14]) (by kernel_rfl) (by simp) ?_
      refine AllReady.cons rfl (fun K hK => ?_) AllReady.nil
      go_simp
      refine hK _ _ ?_
      clear hK K
      refine wpAny_ready (rs := [15]) (by kernel_rfl) (by simp) ?_
      refine AllReady.cons rfl (fun K hK => ?_) AllReady.nil
      go_simp
      refine hK _ _ ?_
      clear hK K
      refine wpAny_ready (rs := [16]) (by kernel_rfl) (by simp) ?_
      refine AllReady.cons rfl (fun K hK => ?_) AllReady.nil
      go_simp
      refine hK _ _ ?_
      clear hK K
      refine wpAny_ready (rs := [17]) (by kernel_rfl) (by simp) ?_
      refine AllReady.cons rfl (fun K hK => ?_) AllReady.nil
      go_simp
      refine hK _ _ ?_
      clear hK K
      refine wpAny_ready (rs := [18]) (by kernel_rfl) (by simp) ?_
      refine AllReady.cons rfl (fun K hK => ?_) AllReady.nil
      go_simp
      refine hK _ _ ?_
      clear hK K
      refine wpAny_ready (rs := [19]) (by kernel_rfl) (by simp) ?_
      refine AllReady.cons rfl (fun K hK => ?_) AllReady.nil
      go_simp
      refine hK _ _ ?_
      clear hK K
      refine wpAny_ready (rs := [20]) (by kernel_rfl) (by simp) ?_
      refine AllReady.cons rfl (fun K hK => ?_) AllReady.nil
      go_simp
      refine hK _ _ ?_
      clear hK K
      refine wpAny_ready (rs := [21]) (by kernel_rfl) (by simp) ?_
      refine AllReady.cons rfl (fun K hK => ?_) AllReady.nil
      go_simp
      refine hK _ _ ?_
      clear hK K
      refine wpAny_ready (rs := [22]) (by kernel_rfl) (by simp) ?_
      refine AllReady.cons rfl (fun K hK => ?_) AllReady.nil
      go_simp
      refine hK _ _ ?_
      clear hK K
      refine wpAny_ready (rs := [23]) (by kernel_rfl) (by simp) ?_
      refine AllReady.cons rfl (fun K hK => ?_) AllReady.nil
      go_simp
      refine hK _ _ ?_
      clear hK K
      refine wpAny_ready (rs := [24]) (by kernel_rfl) (by simp) ?_
      refine AllReady.cons rfl (fun K hK => ?_) AllReady.nil
      go_simp
      refine hK _ _ ?_
      clear hK K
      refine wpAny_ready (rs := [25]) (by kernel_rfl) (by simp) ?_
      refine AllReady.cons rfl (fun K hK => ?_) AllReady.nil
      go_simp
      refine hK _ _ ?_
      clear hK K
      refine wpAny_done (by kernel_rfl) ?_ _
      go_wp2
      go_meet
      exact ⟨by rw [← HV.out]; simp [*], HQA.out⟩
    have m1 : ((s.extract 0 16).toList == MG.toList) = true := by rw [HX16.out]; exact str_yes hm
    by_cases c20 : y20 = 1
    case neg =>
      have d20 : ((y20 : Int) != 1) = true := by rw [bne_iff_ne]; omega
      refine wp_region_any (by kernel_rfl) ?_
      refine wpAny_take (i := 0) (v := .string s) rfl (by kernel_rfl) (by kernel_rfl) (by kernel_rfl) (fun _ _ _ h => h) (Or.inl ⟨by rfl, fun w => by go_simp⟩) ?_
      simp only [Act.put, List.setIfInBounds_toArray, List.set_cons_zero, List.set_cons_succ]
      refine wpAny_take (i := 1) (v := .string (s.extract 0 16)) rfl (by kernel_rfl) (by kernel_rfl) (by kernel_rfl) (fun _ _ _ h => h) (Or.inl ⟨by rfl, fun w => by go_simp⟩) ?_
      simp only [Act.put, List.setIfInBounds_toArray, List.set_cons_zero, List.set_cons_succ]
      refine wpAny_ready (rs := [2]) (by kernel_rfl) (by simp) ?_
      refine AllReady.cons rfl (fun K hK => ?_) AllReady.nil
      go_simp
      refine hK _ _ ?_
      clear hK K
      refine wpAny_ready (rs := [3]) (by kernel_rfl) (by simp) ?_
      refine AllReady.cons rfl (fun K hK => ?_) AllReady.nil
      go_simp
      refine hK _ _ ?_
      clear hK K
      refine wpAny_ready (rs := [4]) (by kernel_rfl) (by simp) ?_
      refine AllReady.cons rfl (fun K hK => ?_) AllReady.nil
      go_simp
      refine hK _ _ ?_
      clear hK K
      refine wpAny_ready (rs := [5]) (by kernel_rfl) (by simp) ?_
      refine AllReady.cons rfl (fun K hK => ?_) AllReady.nil
      go_simp
      refine hK _ _ ?_
      clear hK K
      refine wpAny_ready (rs := [6]) (by kernel_rfl) (by simp) ?_
      refine AllReady.cons rfl (fun K hK => ?_) AllReady.nil
      go_simp
      refine hK _ _ ?_
      clear hK K
      refine wpAny_ready (rs := [7]) (by kernel_rfl) (by simp) ?_
      refine AllReady.cons rfl (fun K hK => ?_) AllReady.nil
      go_simp
      refine hK _ _ ?_
      clear hK K
      refine wpAny_ready (rs := [8]) (by kernel_rfl) (by simp) ?_
      refine AllReady.cons rfl (fun K hK => ?_) AllReady.nil
      go_simp
      refine (N20.out _).mono ?_
      rintro e w2 ⟨rfl, rfl⟩
      rename_i K hK
      refine hK _ _ ?_
      clear hK K
      refine wpAny_ready (rs := [9]) (by kernel_rfl) (by simp) ?_
      refine AllReady.cons rfl (fun K hK => ?_) AllReady.nil
      go_simp
      refine hK _ _ ?_
      clear hK K
      refine wpAny_ready (rs := [10]) (by kernel_rfl) (by simp) ?_
      refine AllReady.cons rfl (fun K hK => ?_) AllReady.nil
      go_simp
      refine hK _ _ ?_
      clear hK K
      refine wpAny_ready (rs := [11]) (by kernel_rfl) (by simp) ?_
      refine AllReady.cons rfl (fun K hK => ?_) AllReady.nil
      go_simp
      refine hK _ _ ?_
      clear hK K
      refine wpAny_ready (rs := [12]) (by kernel_rfl) (by simp) ?_
      refine AllReady.cons rfl (fun K hK => ?_) AllReady.nil
      go_simp
      refine hK _ _ ?_
      clear hK K
      refine wpAny_ready (rs := [13]) (by kernel_rfl) (by simp) ?_
      refine AllReady.cons rfl (fun K hK => ?_) AllReady.nil
      go_simp
      refine hK _ _ ?_
      clear hK K
      refine wpAny_ready (rs := [14]) (by kernel_rfl) (by simp) ?_
      refine AllReady.cons rfl (fun K hK => ?_) AllReady.nil
      go_simp
      refine hK _ _ ?_
      clear hK K
      refine wpAny_ready (rs := [15]) (by kernel_rfl) (by simp) ?_
      refine AllReady.cons rfl (fun K hK => ?_) AllReady.nil
      go_simp
      refine hK _ _ ?_
      clear hK K
      refine wpAny_ready (rs := [16]) (by kernel_rfl) (by simp) ?_
      refine AllReady.cons rfl (fun K hK => ?_) AllReady.nil
      go_simp
      refine hK _ _ ?_
      clear hK K
      refine wpAny_ready (rs := [17]) (by kernel_rfl) (by simp) ?_
      refine AllReady.cons rfl (fun K hK => ?_) AllReady.nil
      go_simp
      refine hK _ _ ?_
      clear hK K
      refine wpAny_ready (rs := [18]) (by kernel_rfl) (by simp) ?_
      refine AllReady.cons rfl (fun K hK => ?_) AllReady.nil
      go_simp
      refine hK _ _ ?_
      clear hK K
      refine wpAny_ready (rs := [19]) (by kernel_rfl) (by simp) ?_
      refine AllReady.cons rfl (fun K hK => ?_) AllReady.nil
      go_simp
      refine hK _ _ ?_
      clear hK K
      refine wpAny_ready (rs := [20]) (by kernel_rfl) (by simp) ?_
      refine AllReady.cons rfl (fun K hK => ?_) AllReady.nil
      go_simp
      refine hK _ _ ?_
      clear hK K
      refine wpAny_ready (rs := [21]) (by kernel_rfl) (by simp) ?_
      refine AllReady.cons rfl (fun K hK => ?_) AllReady.nil
      go_simp
      refine hK _ _ ?_
      clear hK K
      refine wpAny_ready (rs := [22]) (by kernel_rfl) (by simp) ?_
      refine AllReady.cons rfl (fun K hK => ?_) AllReady.nil
      go_simp
      refine hK _ _ ?_
      clear hK K
      refine wpAny_ready (rs := [23]) (by kernel_rfl) (by simp) ?_
      refine AllReady.cons rfl (fun K hK => ?_) AllReady.nil
      go_simp
      refine hK _ _ ?_
      clear hK K
      refine wpAny_ready (rs := [24]) (by kernel_rfl) (by simp) ?_
      refine AllReady.cons rfl (fun K hK => ?_) AllReady.nil
      go_simp
      refine hK _ _ ?_
      clear hK K
      refine wpAny_ready (rs := [25]) (by kernel_rfl) (by simp) ?_
      refine AllReady.cons rfl (fun K hK => ?_) AllReady.nil
      go_simp
      refine hK _ _ ?_
      clear hK K
      refine wpAny_done (by kernel_rfl) ?_ _
      go_wp2
      go_meet
      exact ⟨by rw [← HV.out]; simp [*], HQA.out⟩
    have d20 : ((y20 : Int) != 1) = false := by rw [bne_eq_false_iff_eq]; omega
    by_cases c52 : y52 = 64
    case neg =>
      have d52 : ((y52 : Int) != 64) = true := by rw [bne_iff_ne]; omega
      refine wp_region_any (by kernel_rfl) ?_
      refine wpAny_take (i := 0) (v := .string s) rfl (by kernel_rfl) (by kernel_rfl) (by kernel_rfl) (fun _ _ _ h => h) (Or.inl ⟨by rfl, fun w => by go_simp⟩) ?_
      simp only [Act.put, List.setIfInBounds_toArray, List.set_cons_zero, List.set_cons_succ]
      refine wpAny_take (i := 1) (v := .string (s.extract 0 16)) rfl (by kernel_rfl) (by kernel_rfl) (by kernel_rfl) (fun _ _ _ h => h) (Or.inl ⟨by rfl, fun w => by go_simp⟩) ?_
      simp only [Act.put, List.setIfInBounds_toArray, List.set_cons_zero, List.set_cons_succ]
      refine wpAny_ready (rs := [2]) (by kernel_rfl) (by simp) ?_
      refine AllReady.cons rfl (fun K hK => ?_) AllReady.nil
      go_simp
      refine hK _ _ ?_
      clear hK K
      refine wpAny_ready (rs := [3]) (by kernel_rfl) (by simp) ?_
      refine AllReady.cons rfl (fun K hK => ?_) AllReady.nil
      go_simp
      refine hK _ _ ?_
      clear hK K
      refine wpAny_ready (rs := [4]) (by kernel_rfl) (by simp) ?_
      refine AllReady.cons rfl (fun K hK => ?_) AllReady.nil
      go_simp
      refine hK _ _ ?_
      clear hK K
      refine wpAny_ready (rs := [5]) (by kernel_rfl) (by simp) ?_
      refine AllReady.cons rfl (fun K hK => ?_) AllReady.nil
      go_simp
      refine hK _ _ ?_
      clear hK K
      refine wpAny_ready (rs := [6]) (by kernel_rfl) (by simp) ?_
      refine AllReady.cons rfl (fun K hK => ?_) AllReady.nil
      go_simp
      refine hK _ _ ?_
      clear hK K
      refine wpAny_ready (rs := [7]) (by kernel_rfl) (by simp) ?_
      refine AllReady.cons rfl (fun K hK => ?_) AllReady.nil
      go_simp
      refine hK _ _ ?_
      clear hK K
      refine wpAny_ready (rs := [8]) (by kernel_rfl) (by simp) ?_
      refine AllReady.cons rfl (fun K hK => ?_) AllReady.nil
      go_simp
      refine (N20.out _).mono ?_
      rintro e w2 ⟨rfl, rfl⟩
      rename_i K hK
      refine hK _ _ ?_
      clear hK K
      refine wpAny_ready (rs := [9]) (by kernel_rfl) (by simp) ?_
      refine AllReady.cons rfl (fun K hK => ?_) AllReady.nil
      go_simp
      refine hK _ _ ?_
      clear hK K
      refine wpAny_ready (rs := [10]) (by kernel_rfl) (by simp) ?_
      refine AllReady.cons rfl (fun K hK => ?_) AllReady.nil
      go_simp
      refine hK _ _ ?_
      clear hK K
      refine wpAny_ready (rs := [11]) (by kernel_rfl) (by simp) ?_
      refine AllReady.cons rfl (fun K hK => ?_) AllReady.nil
      go_simp
      refine hK _ _ ?_
      clear hK K
      refine wpAny_ready (rs := [12]) (by kernel_rfl) (by simp) ?_
      refine AllReady.cons rfl (fun K hK => ?_) AllReady.nil
      go_simp
      refine hK _ _ ?_
      clear hK K
      refine wpAny_ready (rs := [13]) (by kernel_rfl) (by simp) ?_
      refine AllReady.cons rfl (fun K hK => ?_) AllReady.nil
      go_simp
      refine (N52.out _).mono ?_
      rintro e w2 ⟨rfl, rfl⟩
      rename_i K hK
      refine hK _ _ ?_
      clear hK K
      refine wpAny_ready (rs := [14]) (by kernel_rfl) (by simp) ?_
      refine AllReady.cons rfl (fun K hK => ?_) AllReady.nil
      go_simp
      refine hK _ _ ?_
      clear hK K
      refine wpAny_ready (rs := [15]) (by kernel_rfl) (by simp) ?_
      refine AllReady.cons rfl (fun K hK => ?_) AllReady.nil
      go_simp
      refine hK _ _ ?_
      clear hK K
      refine wpAny_ready (rs := [16]) (by kernel_rfl) (by simp) ?_
      refine AllReady.cons rfl (fun K hK => ?_) AllReady.nil
      go_simp
      refine hK _ _ ?_
      clear hK K
      refine wpAny_ready (rs := [17]) (by kernel_rfl) (by simp) ?_
      refine AllReady.cons rfl (fun K hK => ?_) AllReady.nil
      go_simp
      refine hK _ _ ?_
      clear hK K
      refine wpAny_ready (rs := [18]) (by kernel_rfl) (by simp) ?_
      refine AllReady.cons rfl (fun K hK => ?_) AllReady.nil
      go_simp
      refine hK _ _ ?_
      clear hK K
      refine wpAny_ready (rs := [19]) (by kernel_rfl) (by simp) ?_
      refine AllReady.cons rfl (fun K hK => ?_) AllReady.nil
      go_simp
      refine hK _ _ ?_
      clear hK K
      refine wpAny_ready (rs := [20]) (by kernel_rfl) (by simp) ?_
      refine AllReady.cons rfl (fun K hK => ?_) AllReady.nil
      go_simp
      refine hK _ _ ?_
      clear hK K
      refine wpAny_ready (rs := [21]) (by kernel_rfl) (by simp) ?_
      refine AllReady.cons rfl (fun K hK => ?_) AllReady.nil
      go_simp
      refine hK _ _ ?_
      clear hK K
      refine wpAny_ready (rs := [22]) (by kernel_rfl) (by simp) ?_
      refine AllReady.cons rfl (fun K hK => ?_) AllReady.nil
      go_simp
      refine hK _ _ ?_
      clear hK K
      refine wpAny_ready (rs := [23]) (by kernel_rfl) (by simp) ?_
      refine AllReady.cons rfl (fun K hK => ?_) AllReady.nil
      go_simp
      refine hK _ _ ?_
      clear hK K
      refine wpAny_ready (rs := [24]) (by kernel_rfl) (by simp) ?_
      refine AllReady.cons rfl (fun K hK => ?_) AllReady.nil
      go_simp
      refine hK _ _ ?_
      clear hK K
      refine wpAny_ready (rs := [25]) (by kernel_rfl) (by simp) ?_
      refine AllReady.cons rfl (fun K hK => ?_) AllReady.nil
      go_simp
      refine hK _ _ ?_
      clear hK K
      refine wpAny_done (by kernel_rfl) ?_ _
      go_wp2
      go_meet
      exact ⟨by rw [← HV.out]; simp [*], HQA.out⟩
    have d52 : ((y52 : Int) != 64) = false := by rw [bne_eq_false_iff_eq]; omega
    by_cases c54 : y54 = 56
    case neg =>
      have d54 : ((y54 : Int) != 56) = true := by rw [bne_iff_ne]; omega
      refine wp_region_any (by kernel_rfl) ?_
      refine wpAny_take (i := 0) (v := .string s) rfl (by kernel_rfl) (by kernel_rfl) (by kernel_rfl) (fun _ _ _ h => h) (Or.inl ⟨by rfl, fun w => by go_simp⟩) ?_
      simp only [Act.put, List.setIfInBounds_toArray, List.set_cons_zero, List.set_cons_succ]
      refine wpAny_take (i := 1) (v := .string (s.extract 0 16)) rfl (by kernel_rfl) (by kernel_rfl) (by kernel_rfl) (fun _ _ _ h => h) (Or.inl ⟨by rfl, fun w => by go_simp⟩) ?_
      simp only [Act.put, List.setIfInBounds_toArray, List.set_cons_zero, List.set_cons_succ]
      refine wpAny_ready (rs := [2]) (by kernel_rfl) (by simp) ?_
      refine AllReady.cons rfl (fun K hK => ?_) AllReady.nil
      go_simp
      refine hK _ _ ?_
      clear hK K
      refine wpAny_ready (rs := [3]) (by kernel_rfl) (by simp) ?_
      refine AllReady.cons rfl (fun K hK => ?_) AllReady.nil
      go_simp
      refine hK _ _ ?_
      clear hK K
      refine wpAny_ready (rs := [4]) (by kernel_rfl) (by simp) ?_
      refine AllReady.cons rfl (fun K hK => ?_) AllReady.nil
      go_simp
      refine hK _ _ ?_
      clear hK K
      refine wpAny_ready (rs := [5]) (by kernel_rfl) (by simp) ?_
      refine AllReady.cons rfl (fun K hK => ?_) AllReady.nil
      go_simp
      refine hK _ _ ?_
      clear hK K
      refine wpAny_ready (rs := [6]) (by kernel_rfl) (by simp) ?_
      refine AllReady.cons rfl (fun K hK => ?_) AllReady.nil
      go_simp
      refine hK _ _ ?_
      clear hK K
      refine wpAny_ready (rs := [7]) (by kernel_rfl) (by simp) ?_
      refine AllReady.cons rfl (fun K hK => ?_) AllReady.nil
      go_simp
      refine hK _ _ ?_
      clear hK K
      refine wpAny_ready (rs := [8]) (by kernel_rfl) (by simp) ?_
      refine AllReady.cons rfl (fun K hK => ?_) AllReady.nil
      go_simp
      refine (N20.out _).mono ?_
      rintro e w2 ⟨rfl, rfl⟩
      rename_i K hK
      refine hK _ _ ?_
      clear hK K
      refine wpAny_ready (rs := [9]) (by kernel_rfl) (by simp) ?_
      refine AllReady.cons rfl (fun K hK => ?_) AllReady.nil
      go_simp
      refine hK _ _ ?_
      clear hK K
      refine wpAny_ready (rs := [10]) (by kernel_rfl) (by simp) ?_
      refine AllReady.cons rfl (fun K hK => ?_) AllReady.nil
      go_simp
      refine hK _ _ ?_
      clear hK K
      refine wpAny_ready (rs := [11]) (by kernel_rfl) (by simp) ?_
      refine AllReady.cons rfl (fun K hK => ?_) AllReady.nil
      go_simp
      refine hK _ _ ?_
      clear hK K
      refine wpAny_ready (rs := [12]) (by kernel_rfl) (by simp) ?_
      refine AllReady.cons rfl (fun K hK => ?_) AllReady.nil
      go_simp
      refine hK _ _ ?_
      clear hK K
      refine wpAny_ready (rs := [13]) (by kernel_rfl) (by simp) ?_
      refine AllReady.cons rfl (fun K hK => ?_) AllReady.nil
      go_simp
      refine (N52.out _).mono ?_
      rintro e w2 ⟨rfl, rfl⟩
      rename_i K hK
      refine hK _ _ ?_
      clear hK K
      refine wpAny_ready (rs := [14]) (by kernel_rfl) (by simp) ?_
      refine AllReady.cons rfl (fun K hK => ?_) AllReady.nil
      go_simp
      refine hK _ _ ?_
      clear hK K
      refine wpAny_ready (rs := [15]) (by kernel_rfl) (by simp) ?_
      refine AllReady.cons rfl (fun K hK => ?_) AllReady.nil
      go_simp
      refine hK _ _ ?_
      clear hK K
      refine wpAny_ready (rs := [16]) (by kernel_rfl) (by simp) ?_
      refine AllReady.cons rfl (fun K hK => ?_) AllReady.nil
      go_simp
      refine hK _ _ ?_
      clear hK K
      refine wpAny_ready (rs := [17]) (by kernel_rfl) (by simp) ?_
      refine AllReady.cons rfl (fun K hK => ?_) AllReady.nil
      go_simp
      refine hK _ _ ?_
      clear hK K
      refine wpAny_ready (rs := [18]) (by kernel_rfl) (by simp) ?_
      refine AllReady.cons rfl (fun K hK => ?_) AllReady.nil
      go_simp
      refine (N54.out _).mono ?_
      rintro e w2 ⟨rfl, rfl⟩
      rename_i K hK
      refine hK _ _ ?_
      clear hK K
      refine wpAny_ready (rs := [19]) (by kernel_rfl) (by simp) ?_
      refine AllReady.cons rfl (fun K hK => ?_) AllReady.nil
      go_simp
      refine hK _ _ ?_
      clear hK K
      refine wpAny_ready (rs := [20]) (by kernel_rfl) (by simp) ?_
      refine AllReady.cons rfl (fun K hK => ?_) AllReady.nil
      go_simp
      refine hK _ _ ?_
      clear hK K
      refine wpAny_ready (rs := [21]) (by kernel_rfl) (by simp) ?_
      refine AllReady.cons rfl (fun K hK => ?_) AllReady.nil
      go_simp
      refine hK _ _ ?_
      clear hK K
      refine wpAny_ready (rs := [22]) (by kernel_rfl) (by simp) ?_
      refine AllReady.cons rfl (fun K hK => ?_) AllReady.nil
      go_simp
      refine hK _ _ ?_
      clear hK K
      refine wpAny_ready (rs := [23]) (by kernel_rfl) (by simp) ?_
      refine AllReady.cons rfl (fun K hK => ?_) AllReady.nil
      go_simp
      refine hK _ _ ?_
      clear hK K
      refine wpAny_ready (rs := [24]) (by kernel_rfl) (by simp) ?_
      refine AllReady.cons rfl (fun K hK => ?_) AllReady.nil
      go_simp
      refine hK _ _ ?_
      clear hK K
      refine wpAny_ready (rs := [25]) (by kernel_rfl) (by simp) ?_
      refine AllReady.cons rfl (fun K hK => ?_) AllReady.nil
      go_simp
      refine hK _ _ ?_
      clear hK K
      refine wpAny_done (by kernel_rfl) ?_ _
      go_wp2
      go_meet
      exact ⟨by rw [← HV.out]; simp [*], HQA.out⟩
    have d54 : ((y54 : Int) != 56) = false := by rw [bne_eq_false_iff_eq]; omega
    by_cases c58 : y58 = 64
    case neg =>
      have d58 : ((y58 : Int) != 64) = true := by rw [bne_iff_ne]; omega
      refine wp_region_any (by kernel_rfl) ?_
      refine wpAny_take (i := 0) (v := .string s) rfl (by kernel_rfl) (by kernel_rfl) (by kernel_rfl) (fun _ _ _ h => h) (Or.inl ⟨by rfl, fun w => by go_simp⟩) ?_
      simp only [Act.put, List.setIfInBounds_toArray, List.set_cons_zero, List.set_cons_succ]
      refine wpAny_take (i := 1) (v := .string (s.extract 0 16)) rfl (by kernel_rfl) (by kernel_rfl) (by kernel_rfl) (fun _ _ _ h => h) (Or.inl ⟨by rfl, fun w => by go_simp⟩) ?_
      simp only [Act.put, List.setIfInBounds_toArray, List.set_cons_zero, List.set_cons_succ]
      refine wpAny_ready (rs := [2]) (by kernel_rfl) (by simp) ?_
      refine AllReady.cons rfl (fun K hK => ?_) AllReady.nil
      go_simp
      refine hK _ _ ?_
      clear hK K
      refine wpAny_ready (rs := [3]) (by kernel_rfl) (by simp) ?_
      refine AllReady.cons rfl (fun K hK => ?_) AllReady.nil
      go_simp
      refine hK _ _ ?_
      clear hK K
      refine wpAny_ready (rs := [4]) (by kernel_rfl) (by simp) ?_
      refine AllReady.cons rfl (fun K hK => ?_) AllReady.nil
      go_simp
      refine hK _ _ ?_
      clear hK K
      refine wpAny_ready (rs := [5]) (by kernel_rfl) (by simp) ?_
      refine AllReady.cons rfl (fun K hK => ?_) AllReady.nil
      go_simp
      refine hK _ _ ?_
      clear hK K
      refine wpAny_ready (rs := [6]) (by kernel_rfl) (by simp) ?_
      refine AllReady.cons rfl (fun K hK => ?_) AllReady.nil
      go_simp
      refine hK _ _ ?_
      clear hK K
      refine wpAny_ready (rs := [7]) (by kernel_rfl) (by simp) ?_
      refine AllReady.cons rfl (fun K hK => ?_) AllReady.nil
      go_simp
      refine hK _ _ ?_
      clear hK K
      refine wpAny_ready (rs := [8]) (by kernel_rfl) (by simp) ?_
      refine AllReady.cons rfl (fun K hK => ?_) AllReady.nil
      go_simp
      refine (N20.out _).mono ?_
      rintro e w2 ⟨rfl, rfl⟩
      rename_i K hK
      refine hK _ _ ?_
      clear hK K
      refine wpAny_ready (rs := [9]) (by kernel_rfl) (by simp) ?_
      refine AllReady.cons rfl (fun K hK => ?_) AllReady.nil
      go_simp
      refine hK _ _ ?_
      clear hK K
      refine wpAny_ready (rs := [10]) (by kernel_rfl) (by simp) ?_
      refine AllReady.cons rfl (fun K hK => ?_) AllReady.nil
      go_simp
      refine hK _ _ ?_
      clear hK K
      refine wpAny_ready (rs := [11]) (by kernel_rfl) (by simp) ?_
      refine AllReady.cons rfl (fun K hK => ?_) AllReady.nil
      go_simp
      refine hK _ _ ?_
      clear hK K
      refine wpAny_ready (rs := [12]) (by kernel_rfl) (by simp) ?_
      refine AllReady.cons rfl (fun K hK => ?_) AllReady.nil
      go_simp
      refine hK _ _ ?_
      clear hK K
      refine wpAny_ready (rs := [13]) (by kernel_rfl) (by simp) ?_
      refine AllReady.cons rfl (fun K hK => ?_) AllReady.nil
      go_simp
      refine (N52.out _).mono ?_
      rintro e w2 ⟨rfl, rfl⟩
      rename_i K hK
      refine hK _ _ ?_
      clear hK K
      refine wpAny_ready (rs := [14]) (by kernel_rfl) (by simp) ?_
      refine AllReady.cons rfl (fun K hK => ?_) AllReady.nil
      go_simp
      refine hK _ _ ?_
      clear hK K
      refine wpAny_ready (rs := [15]) (by kernel_rfl) (by simp) ?_
      refine AllReady.cons rfl (fun K hK => ?_) AllReady.nil
      go_simp
      refine hK _ _ ?_
      clear hK K
      refine wpAny_ready (rs := [16]) (by kernel_rfl) (by simp) ?_
      refine AllReady.cons rfl (fun K hK => ?_) AllReady.nil
      go_simp
      refine hK _ _ ?_
      clear hK K
      refine wpAny_ready (rs := [17]) (by kernel_rfl) (by simp) ?_
      refine AllReady.cons rfl (fun K hK => ?_) AllReady.nil
      go_simp
      refine hK _ _ ?_
      clear hK K
      refine wpAny_ready (rs := [18]) (by kernel_rfl) (by simp) ?_
      refine AllReady.cons rfl (fun K hK => ?_) AllReady.nil
      go_simp
      refine (N54.out _).mono ?_
      rintro e w2 ⟨rfl, rfl⟩
      rename_i K hK
      refine hK _ _ ?_
      clear hK K
      refine wpAny_ready (rs := [19]) (by kernel_rfl) (by simp) ?_
      refine AllReady.cons rfl (fun K hK => ?_) AllReady.nil
      go_simp
      refine hK _ _ ?_
      clear hK K
      refine wpAny_ready (rs := [20]) (by kernel_rfl) (by simp) ?_
      refine AllReady.cons rfl (fun K hK => ?_) AllReady.nil
      go_simp
      refine hK _ _ ?_
      clear hK K
      refine wpAny_ready (rs := [21]) (by kernel_rfl) (by simp) ?_
      refine AllReady.cons rfl (fun K hK => ?_) AllReady.nil
      go_simp
      refine hK _ _ ?_
      clear hK K
      refine wpAny_ready (rs := [22]) (by kernel_rfl) (by simp) ?_
      refine AllReady.cons rfl (fun K hK => ?_) AllReady.nil
      go_simp
      refine hK _ _ ?_
      clear hK K
      refine wpAny_ready (rs := [23]) (by kernel_rfl) (by simp) ?_
      refine AllReady.cons rfl (fun K hK => ?_) AllReady.nil
      go_simp
      refine (N58.out _).mono ?_
      rintro e w2 ⟨rfl, rfl⟩
      rename_i K hK
      refine hK _ _ ?_
      clear hK K
      refine wpAny_ready (rs := [24]) (by kernel_rfl) (by simp) ?_
      refine AllReady.cons rfl (fun K hK => ?_) AllReady.nil
      go_simp
      refine hK _ _ ?_
      clear hK K
      refine wpAny_ready (rs := [25]) (by kernel_rfl) (by simp) ?_
      refine AllReady.cons rfl (fun K hK => ?_) AllReady.nil
      go_simp
      refine hK _ _ ?_
      clear hK K
      refine wpAny_done (by kernel_rfl) ?_ _
      go_wp2
      go_meet
      exact ⟨by rw [← HV.out]; simp [*], HQA.out⟩
    have d58 : ((y58 : Int) != 64) = false := by rw [bne_eq_false_iff_eq]; omega
    refine wp_region_any (by kernel_rfl) ?_
    refine wpAny_take (i := 0) (v := .string s) rfl (by kernel_rfl) (by kernel_rfl) (by kernel_rfl) (fun _ _ _ h => h) (Or.inl ⟨by rfl, fun w => by go_simp⟩) ?_
    simp only [Act.put, List.setIfInBounds_toArray, List.set_cons_zero, List.set_cons_succ]
    refine wpAny_take (i := 1) (v := .string (s.extract 0 16)) rfl (by kernel_rfl) (by kernel_rfl) (by kernel_rfl) (fun _ _ _ h => h) (Or.inl ⟨by rfl, fun w => by go_simp⟩) ?_
    simp only [Act.put, List.setIfInBounds_toArray, List.set_cons_zero, List.set_cons_succ]
    refine wpAny_ready (rs := [2]) (by kernel_rfl) (by simp) ?_
    refine AllReady.cons rfl (fun K hK => ?_) AllReady.nil
    go_simp
    refine hK _ _ ?_
    clear hK K
    refine wpAny_ready (rs := [3]) (by kernel_rfl) (by simp) ?_
    refine AllReady.cons rfl (fun K hK => ?_) AllReady.nil
    go_simp
    refine hK _ _ ?_
    clear hK K
    refine wpAny_ready (rs := [4]) (by kernel_rfl) (by simp) ?_
    refine AllReady.cons rfl (fun K hK => ?_) AllReady.nil
    go_simp
    refine hK _ _ ?_
    clear hK K
    refine wpAny_ready (rs := [5]) (by kernel_rfl) (by simp) ?_
    refine AllReady.cons rfl (fun K hK => ?_) AllReady.nil
    go_simp
    refine hK _ _ ?_
    clear hK K
    refine wpAny_ready (rs := [6]) (by kernel_rfl) (by simp) ?_
    refine AllReady.cons rfl (fun K hK => ?_) AllReady.nil
    go_simp
    refine hK _ _ ?_
    clear hK K
    refine wpAny_ready (rs := [7]) (by kernel_rfl) (by simp) ?_
    refine AllReady.cons rfl (fun K hK => ?_) AllReady.nil
    go_simp
    refine hK _ _ ?_
    clear hK K
    refine wpAny_ready (rs := [8]) (by kernel_rfl) (by simp) ?_
    refine AllReady.cons rfl (fun K hK => ?_) AllReady.nil
    go_simp
    refine (N20.out _).mono ?_
    rintro e w2 ⟨rfl, rfl⟩
    rename_i K hK
    refine hK _ _ ?_
    clear hK K
    refine wpAny_ready (rs := [9]) (by kernel_rfl) (by simp) ?_
    refine AllReady.cons rfl (fun K hK => ?_) AllReady.nil
    go_simp
    refine hK _ _ ?_
    clear hK K
    refine wpAny_ready (rs := [10]) (by kernel_rfl) (by simp) ?_
    refine AllReady.cons rfl (fun K hK => ?_) AllReady.nil
    go_simp
    refine hK _ _ ?_
    clear hK K
    refine wpAny_ready (rs := [11]) (by kernel_rfl) (by simp) ?_
    refine AllReady.cons rfl (fun K hK => ?_) AllReady.nil
    go_simp
    refine hK _ _ ?_
    clear hK K
    refine wpAny_ready (rs := [12]) (by kernel_rfl) (by simp) ?_
    refine AllReady.cons rfl (fun K hK => ?_) AllReady.nil
    go_simp
    refine hK _ _ ?_
    clear hK K
    refine wpAny_ready (rs := [13]) (by kernel_rfl) (by simp) ?_
    refine AllReady.cons rfl (fun K hK => ?_) AllReady.nil
    go_simp
    refine (N52.out _).mono ?_
    rintro e w2 ⟨rfl, rfl⟩
    rename_i K hK
    refine hK _ _ ?_
    clear hK K
    refine wpAny_ready (rs := [14]) (by kernel_rfl) (by simp) ?_
    refine AllReady.cons rfl (fun K hK => ?_) AllReady.nil
    go_simp
    refine hK _ _ ?_
    clear hK K
    refine wpAny_ready (rs := [15]) (by kernel_rfl) (by simp) ?_
    refine AllReady.cons rfl (fun K hK => ?_) AllReady.nil
    go_simp
    refine hK _ _ ?_
    clear hK K
    refine wpAny_ready (rs := [16]) (by kernel_rfl) (by simp) ?_
    refine AllReady.cons rfl (fun K hK => ?_) AllReady.nil
    go_simp
    refine hK _ _ ?_
    clear hK K
    refine wpAny_ready (rs := [17]) (by kernel_rfl) (by simp) ?_
    refine AllReady.cons rfl (fun K hK => ?_) AllReady.nil
    go_simp
    refine hK _ _ ?_
    clear hK K
    refine wpAny_ready (rs := [18]) (by kernel_rfl) (by simp) ?_
    refine AllReady.cons rfl (fun K hK => ?_) AllReady.nil
    go_simp
    refine (N54.out _).mono ?_
    rintro e w2 ⟨rfl, rfl⟩
    rename_i K hK
    refine hK _ _ ?_
    clear hK K
    refine wpAny_ready (rs := [19]) (by kernel_rfl) (by simp) ?_
    refine AllReady.cons rfl (fun K hK => ?_) AllReady.nil
    go_simp
    refine hK _ _ ?_
    clear hK K
    refine wpAny_ready (rs := [20]) (by kernel_rfl) (by simp) ?_
    refine AllReady.cons rfl (fun K hK => ?_) AllReady.nil
    go_simp
    refine hK _ _ ?_
    clear hK K
    refine wpAny_ready (rs := [21]) (by kernel_rfl) (by simp) ?_
    refine AllReady.cons rfl (fun K hK => ?_) AllReady.nil
    go_simp
    refine hK _ _ ?_
    clear hK K
    refine wpAny_ready (rs := [22]) (by kernel_rfl) (by simp) ?_
    refine AllReady.cons rfl (fun K hK => ?_) AllReady.nil
    go_simp
    refine hK _ _ ?_
    clear hK K
    refine wpAny_ready (rs := [23]) (by kernel_rfl) (by simp) ?_
    refine AllReady.cons rfl (fun K hK => ?_) AllReady.nil
    go_simp
    refine (N58.out _).mono ?_
    rintro e w2 ⟨rfl, rfl⟩
    rename_i K hK
    refine hK _ _ ?_
    clear hK K
    refine wpAny_ready (rs := [24]) (by kernel_rfl) (by simp) ?_
    refine AllReady.cons rfl (fun K hK => ?_) AllReady.nil
    go_simp
    refine hK _ _ ?_
    clear hK K
    refine wpAny_ready (rs := [25]) (by kernel_rfl) (by simp) ?_
    refine AllReady.cons rfl (fun K hK => ?_) AllReady.nil
    go_simp
    refine hK _ _ ?_
    clear hK K
    refine wpAny_done (by kernel_rfl) ?_ _
    go_wp2
    go_meet
    exact ⟨by rw [← HV.out]; simp [*], HQA.out⟩
  case rest =>
    obtain ⟨rfl, hb5⟩ := hcut
    have HR5 := hid (hb5.has HR1.out)
    have HB5 := hid (HB1.out.trans hb5)
    clear hb5 HQA HMS HZ0 HZ1 HCV HR1 HB1
    by_cases hvt : V = true
    · subst hvt
      go_upto_region 6 with fail
      have HE := hid (show readE s = 3 from HHD.out (fun h => by obtain ⟨b1, b2, b3, b4, b5, -⟩ := HNO.out h; have := HV.out; simp [b1, b2, b3, b4, b5] at this))
      have HPN := hid (HR5.out.set [.int .i64 0, .int .i64 0, .int .u64 0, .int .i64 0, .slice none 0 0, .slice none 0 0] rfl)
      have HBN := hid (HB5.out.set (show w.heap.size ≤ rb by rw [HRB.out]; exact Nat.le_refl _) [.int .i64 0, .int .i64 0, .int .u64 0, .int .i64 0, .slice none 0 0, .slice none 0 0])
      have HTH := hid (HR5.out.there 6 (Nat.le_refl _))
      refine wp_region_list ?_
      refine wpList_plain rfl fun K hK => ?_
      go_simp
      refine hK _ _ ?_
      clear hK K
      refine wpList_store_mid rfl 27 (.tmp 2) (.tmp 53) rfl rb 0 #[.int .i64 0, .int .i64 0, .int .u64 0, .int .i64 0, .slice none 0 0, .slice none 0 0] rfl rfl HTH.out inf_Elf (by simp only [List.all_toArray, List.all_cons, List.all_nil]; rfl) ?_
      change wpList _ _ _ _ _ (wc.setCells rb 0 [.int .i64 0, .int .i64 0, .int .u64 0, .int .i64 0, .slice none 0 0, .slice none 0 0])
      generalize wc.setCells rb 0 [.int .i64 0, .int .i64 0, .int .u64 0, .int .i64 0, .slice none 0 0, .slice none 0 0] = wz at *
      go_wp2_with fail
      have p0 := HPN.out.cell 0
      have p1 := HPN.out.cell 1
      have p2 := HPN.out.cell 2
      have p3 := HPN.out.cell 3
      have p4 := HPN.out.cell 4
      have p5 := HPN.out.cell 5
      simp only [List.getElem?_toArray, List.getElem?_cons_zero, List.getElem?_cons_succ] at p0 p1 p2 p3 p4 p5
      refine bodyPost_ret (by simp [results, Try.results11, go_sem, p0, p1, p2, p3, p4, p5]; try rfl) rfl ?_
      exact HBD.out _ _ 3 HBN.out HE.out (by decide) rfl
    have hvf : V = false := by simpa using hvt
    subst hvf
    have HC5 := hid (show X16 = MG ∧ y20 = 1 ∧ y52 = 64 ∧ y54 = 56 ∧ y58 = 64 from by simpa using HV.out)
    clear hvt
    by_cases q1 : (y60 : Int) < 2
    · skip
      go_upto_region 8 with (go_at_call 22; with_reducible (first | refine (N62.out _).mono ?_); rintro e w2 ⟨rfl, rfl⟩)
      have HE := hid (show readE s = 3 from HHD.out (fun h => by have := (HNO.out h).2.2.2.2.2.2.1; omega))
      have HPN := hid (HR5.out.set [.int .i64 0, .int .i64 0, .int .u64 0, .int .i64 0, .slice none 0 0, .slice none 0 0] rfl)
      have HBN := hid (HB5.out.set (show w.heap.size ≤ rb by rw [HRB.out]; exact Nat.le_refl _) [.int .i64 0, .int .i64 0, .int .u64 0, .int .i64 0, .slice none 0 0, .slice none 0 0])
      have HTH := hid (HR5.out.there 6 (Nat.le_refl _))
      refine wp_region_list ?_
      refine wpList_plain rfl fun K hK => ?_
      go_simp
      refine hK _ _ ?_
      clear hK K
      refine wpList_store_mid rfl 27 (.tmp 2) (.tmp 72) rfl rb 0 #[.int .i64 0, .int .i64 0, .int .u64 0, .int .i64 0, .slice none 0 0, .slice none 0 0] rfl rfl HTH.out inf_Elf (by simp only [List.all_toArray, List.all_cons, List.all_nil]; rfl) ?_
      change wpList _ _ _ _ _ (wc.setCells rb 0 [.int .i64 0, .int .i64 0, .int .u64 0, .int .i64 0, .slice none 0 0, .slice none 0 0])
      generalize wc.setCells rb 0 [.int .i64 0, .int .i64 0, .int .u64 0, .int .i64 0, .slice none 0 0, .slice none 0 0] = wz at *
      go_wp2_with fail
      have p0 := HPN.out.cell 0
      have p1 := HPN.out.cell 1
      have p2 := HPN.out.cell 2
      have p3 := HPN.out.cell 3
      have p4 := HPN.out.cell 4
      have p5 := HPN.out.cell 5
      simp only [List.getElem?_toArray, List.getElem?_cons_zero, List.getElem?_cons_succ] at p0 p1 p2 p3 p4 p5
      refine bodyPost_ret (by simp [results, Try.results11, go_sem, p0, p1, p2, p3, p4, p5]; try rfl) rfl ?_
      exact HBD.out _ _ 3 HBN.out HE.out (by decide) rfl
    by_cases q2 : (y62 : Int) = (y60 : Int) - 1
    case neg =>
      have d2 : ((y62 : Int) != (y60 : Int) - 1) = true := by rw [bne_iff_ne]; exact q2
      go_upto_region 8 with (go_at_call 22; with_reducible (first | refine (N62.out _).mono ?_); rintro e w2 ⟨rfl, rfl⟩)
      have HE := hid (show readE s = 3 from HHD.out (fun h => q2 (HNO.out h).2.2.2.2.2.1))
      have HPN := hid (HR5.out.set [.int .i64 0, .int .i64 0, .int .u64 0, .int .i64 0, .slice none 0 0, .slice none 0 0] rfl)
      have HBN := hid (HB5.out.set (show w.heap.size ≤ rb by rw [HRB.out]; exact Nat.le_refl _) [.int .i64 0, .int .i64 0, .int .u64 0, .int .i64 0, .slice none 0 0, .slice none 0 0])
      have HTH := hid (HR5.out.there 6 (Nat.le_refl _))
      refine wp_region_list ?_
      refine wpList_plain rfl fun K hK => ?_
      go_simp
      refine hK _ _ ?_
      clear hK K
      refine wpList_store_mid rfl 27 (.tmp 2) (.tmp 72) rfl rb 0 #[.int .i64 0, .int .i64 0, .int .u64 0, .int .i64 0, .slice none 0 0, .slice none 0 0] rfl rfl HTH.out inf_Elf (by simp only [List.all_toArray, List.all_cons, List.all_nil]; rfl) ?_
      change wpList _ _ _ _ _ (wc.setCells rb 0 [.int .i64 0, .int .i64 0, .int .u64 0, .int .i64 0, .slice none 0 0, .slice none 0 0])
      generalize wc.setCells rb 0 [.int .i64 0, .int .i64 0, .int .u64 0, .int .i64 0, .slice none 0 0, .slice none 0 0] = wz at *
      go_wp2_with fail
      have p0 := HPN.out.cell 0
      have p1 := HPN.out.cell 1
      have p2 := HPN.out.cell 2
      have p3 := HPN.out.cell 3
      have p4 := HPN.out.cell 4
      have p5 := HPN.out.cell 5
      simp only [List.getElem?_toArray, List.getElem?_cons_zero, List.getElem?_cons_succ] at p0 p1 p2 p3 p4 p5
      refine bodyPost_ret (by simp [results, Try.results11, go_sem, p0, p1, p2, p3, p4, p5]; try rfl) rfl ?_
      exact HBD.out _ _ 3 HBN.out HE.out (by decide) rfl
    have d2 : ((y62 : Int) != (y60 : Int) - 1) = false := by rw [bne_eq_false_iff_eq]; exact q2
    have HQ2 := hid q2
    by_cases q3 : (1000 : Int) < (y56 : Int)
    · clear q2
      go_upto_region 8 with (go_at_call 22; with_reducible (first | refine (N62.out _).mono ?_); rintro e w2 ⟨rfl, rfl⟩)
      have HE := hid (show readE s = 3 from HHD.out (fun h => by have := (HNO.out h).2.2.2.2.2.2.2.2; omega))
      have HPN := hid (HR5.out.set [.int .i64 0, .int .i64 0, .int .u64 0, .int .i64 0, .slice none 0 0, .slice none 0 0] rfl)
      have HBN := hid (HB5.out.set (show w.heap.size ≤ rb by rw [HRB.out]; exact Nat.le_refl _) [.int .i64 0, .int .i64 0, .int .u64 0, .int .i64 0, .slice none 0 0, .slice none 0 0])
      have HTH := hid (HR5.out.there 6 (Nat.le_refl _))
      refine wp_region_list ?_
      refine wpList_plain rfl fun K hK => ?_
      go_simp
      refine hK _ _ ?_
      clear hK K
      refine wpList_store_mid rfl 27 (.tmp 2) (.tmp 72) rfl rb 0 #[.int .i64 0, .int .i64 0, .int .u64 0, .int .i64 0, .slice none 0 0, .slice none 0 0] rfl rfl HTH.out inf_Elf (by simp only [List.all_toArray, List.all_cons, List.all_nil]; rfl) ?_
      change wpList _ _ _ _ _ (wc.setCells rb 0 [.int .i64 0, .int .i64 0, .int .u64 0, .int .i64 0, .slice none 0 0, .slice none 0 0])
      generalize wc.setCells rb 0 [.int .i64 0, .int .i64 0, .int .u64 0, .int .i64 0, .slice none 0 0, .slice none 0 0] = wz at *
      go_wp2_with fail
      have p0 := HPN.out.cell 0
      have p1 := HPN.out.cell 1
      have p2 := HPN.out.cell 2
      have p3 := HPN.out.cell 3
      have p4 := HPN.out.cell 4
      have p5 := HPN.out.cell 5
      simp only [List.getElem?_toArray, List.getElem?_cons_zero, List.getElem?_cons_succ] at p0 p1 p2 p3 p4 p5
      refine bodyPost_ret (by simp [results, Try.results11, go_sem, p0, p1, p2, p3, p4, p5]; try rfl) rfl ?_
      exact HBD.out _ _ 3 HBN.out HE.out (by decide) rfl
    by_cases q4 : (1002 : Int) < (y60 : Int)
    · clear q2
      go_upto_region 8 with (go_at_call 22; with_reducible (first | refine (N62.out _).mono ?_); rintro e w2 ⟨rfl, rfl⟩)
      have HE := hid (show readE s = 3 from HHD.out (fun h => by have := (HNO.out h).2.2.2.2.2.2.2.1; omega))
      have HPN := hid (HR5.out.set [.int .i64 0, .int .i64 0, .int .u64 0, .int .i64 0, .slice none 0 0, .slice none 0 0] rfl)
      have HBN := hid (HB5.out.set (show w.heap.size ≤ rb by rw [HRB.out]; exact Nat.le_refl _) [.int .i64 0, .int .i64 0, .int .u64 0, .int .i64 0, .slice none 0 0, .slice none 0 0])
      have HTH := hid (HR5.out.there 6 (Nat.le_refl _))
      refine wp_region_list ?_
      refine wpList_plain rfl fun K hK => ?_
      go_simp
      refine hK _ _ ?_
      clear hK K
      refine wpList_store_mid rfl 27 (.tmp 2) (.tmp 72) rfl rb 0 #[.int .i64 0, .int .i64 0, .int .u64 0, .int .i64 0, .slice none 0 0, .slice none 0 0] rfl rfl HTH.out inf_Elf (by simp only [List.all_toArray, List.all_cons, List.all_nil]; rfl) ?_
      change wpList _ _ _ _ _ (wc.setCells rb 0 [.int .i64 0, .int .i64 0, .int .u64 0, .int .i64 0, .slice none 0 0, .slice none 0 0])
      generalize wc.setCells rb 0 [.int .i64 0, .int .i64 0, .int .u64 0, .int .i64 0, .slice none 0 0, .slice none 0 0] = wz at *
      go_wp2_with fail
      have p0 := HPN.out.cell 0
      have p1 := HPN.out.cell 1
      have p2 := HPN.out.cell 2
      have p3 := HPN.out.cell 3
      have p4 := HPN.out.cell 4
      have p5 := HPN.out.cell 5
      simp only [List.getElem?_toArray, List.getElem?_cons_zero, List.getElem?_cons_succ] at p0 p1 p2 p3 p4 p5
      refine bodyPost_ret (by simp [results, Try.results11, go_sem, p0, p1, p2, p3, p4, p5]; try rfl) rfl ?_
      exact HBD.out _ _ 3 HBN.out HE.out (by decide) rfl
    have HHE := hid (show hdE s = 0 from hd_ok HG64.out (HOK.out HC5.out.1 HC5.out.2.1 HC5.out.2.2.1 HC5.out.2.2.2.1 HC5.out.2.2.2.2 HQ2.out (by omega) (by omega) (by omega)))
    clear q2
    have HPA := hid (show pAt s = y32 from HY32.out)
    have HSA := hid (show sAt s = y40 from HY40.out)
    have HNS := hid (show nSeg s = y56 from HY56.out)
    have HNK := hid (show nSec s = y60 from HY60.out)
    have HCUT := hid (show cutB s = ((decide (0 < y56) && decide (s.size < y32 + 56 * y56)) || decide (s.size < y40 + 64 * y60)) from by unfold cutB; rw [HPA.out, HSA.out, HNS.out, HNK.out])
    have HS1 := hid (fun W => stands_any s hl y32 (56 * y56) W)
    have HS2 := hid (fun W => stands_any s hl y40 (64 * y60) W)
    have a1 : IntKind.i64.wrap (56 * (y56 : Int)) = ((56 * y56 : Nat) : Int) := by rw [IntWalk.i64_in _ (by omega)]; omega
    have a2 : IntKind.u64.wrap ((56 * y56 : Nat) : Int) = ((56 * y56 : Nat) : Int) := IntWalk.u64_in _ (by omega)
    have a3 : IntKind.i64.wrap (64 * (y60 : Int)) = ((64 * y60 : Nat) : Int) := by rw [IntWalk.i64_in _ (by omega)]; omega
    have a4 : IntKind.u64.wrap ((64 * y60 : Nat) : Int) = ((64 * y60 : Nat) : Int) := IntWalk.u64_in _ (by omega)
    obtain ⟨m56, hm56⟩ : ∃ x, 56 * y56 = x := ⟨_, rfl⟩
    obtain ⟨m64, hm64⟩ : ∃ x, 64 * y60 = x := ⟨_, rfl⟩
    have HM56 := hid hm56
    have HM64 := hid hm64
    rw [hm56] at HS1 HCUT a1 a2
    rw [hm64] at HS2 HCUT a3 a4
    clear hm56 hm64
    obtain ⟨CB, hCB⟩ : ∃ b, cutB s = b := ⟨_, rfl⟩
    have HCB := hid hCB
    rw [hCB] at HCUT
    clear hCB
    generalize wc = wA at *
    go_upto_region 11 with (first | (go_at_call 22; with_reducible (first | refine (N32.out _).mono ?_ | refine (N40.out _).mono ?_ | refine (N62.out _).mono ?_); rintro e w2 ⟨rfl, rfl⟩) | (go_at_call 23; with_reducible (first | refine (HS1.out _).mono ?_ | refine (HS2.out _).mono ?_); rintro e w2 ⟨rfl, rfl⟩))
    go_cut [96] from 77 to 96 (fun v W => v = .bool CB ∧ wA = W)
    case first =>
      by_cases z0 : y56 = 0
      · have z1 : ¬ (0 : Int) < (y56 : Int) := by omega
        by_cases k2 : y40 + m64 ≤ s.size
        · rw [decide_eq_true k2] at HS2
          obtain rfl : CB = false := by rw [HCUT.out, decide_eq_false (show ¬ 0 < y56 by omega), decide_eq_false (show ¬ s.size < y40 + m64 by omega)]; rfl
          clear z0 k2
          go_wp2_with (first | (go_at_call 22; with_reducible (first | refine (N32.out _).mono ?_ | refine (N40.out _).mono ?_ | refine (N62.out _).mono ?_); rintro e w2 ⟨rfl, rfl⟩) | (go_at_call 23; with_reducible (first | refine (HS1.out _).mono ?_ | refine (HS2.out _).mono ?_); rintro e w2 ⟨rfl, rfl⟩))
          go_meet
          exact ⟨rfl, rfl⟩
        · rw [decide_eq_false k2] at HS2
          obtain rfl : CB = true := by rw [HCUT.out, decide_eq_true (show s.size < y40 + m64 by omega), Bool.or_true]
          clear z0 k2
          go_wp2_with (first | (go_at_call 22; with_reducible (first | refine (N32.out _).mono ?_ | refine (N40.out _).mono ?_ | refine (N62.out _).mono ?_); rintro e w2 ⟨rfl, rfl⟩) | (go_at_call 23; with_reducible (first | refine (HS1.out _).mono ?_ | refine (HS2.out _).mono ?_); rintro e w2 ⟨rfl, rfl⟩))
          go_meet
          exact ⟨rfl, rfl⟩
      · have z1 : (0 : Int) < (y56 : Int) := by omega
        by_cases k1 : y32 + m56 ≤ s.size
        · rw [decide_eq_true k1] at HS1
          by_cases k2 : y40 + m64 ≤ s.size
          · rw [decide_eq_true k2] at HS2
            obtain rfl : CB = false := by rw [HCUT.out, decide_eq_false (show ¬ s.size < y32 + m56 by omega), decide_eq_false (show ¬ s.size < y40 + m64 by omega), Bool.and_false]; rfl
            clear z0 k1 k2
            go_wp2_with (first | (go_at_call 22; with_reducible (first | refine (N32.out _).mono ?_ | refine (N40.out _).mono ?_ | refine (N62.out _).mono ?_); rintro e w2 ⟨rfl, rfl⟩) | (go_at_call 23; with_reducible (first | refine (HS1.out _).mono ?_ | refine (HS2.out _).mono ?_); rintro e w2 ⟨rfl, rfl⟩))
            go_meet
            exact ⟨rfl, rfl⟩
          · rw [decide_eq_false k2] at HS2
            obtain rfl : CB = true := by rw [HCUT.out, decide_eq_true (show s.size < y40 + m64 by omega), Bool.or_true]
            clear z0 k1 k2
            go_wp2_with (first | (go_at_call 22; with_reducible (first | refine (N32.out _).mono ?_ | refine (N40.out _).mono ?_ | refine (N62.out _).mono ?_); rintro e w2 ⟨rfl, rfl⟩) | (go_at_call 23; with_reducible (first | refine (HS1.out _).mono ?_ | refine (HS2.out _).mono ?_); rintro e w2 ⟨rfl, rfl⟩))
            go_meet
            exact ⟨rfl, rfl⟩
        · rw [decide_eq_false k1] at HS1
          obtain rfl : CB = true := by rw [HCUT.out, decide_eq_true (show 0 < y56 by omega), decide_eq_true (show s.size < y32 + m56 by omega)]; rfl
          clear z0 k1
          go_wp2_with (first | (go_at_call 22; with_reducible (first | refine (N32.out _).mono ?_ | refine (N40.out _).mono ?_ | refine (N62.out _).mono ?_); rintro e w2 ⟨rfl, rfl⟩) | (go_at_call 23; with_reducible (first | refine (HS1.out _).mono ?_ | refine (HS2.out _).mono ?_); rintro e w2 ⟨rfl, rfl⟩))
          go_meet
          exact ⟨rfl, rfl⟩
    case rest =>
      obtain ⟨rfl, rfl⟩ := hcut
      cases CB with
      | true =>
        go_upto_region 12 with fail
        have HE := hid (show readE s = 2 from read_cut HHE.out HCB.out)
        have HPN := hid (HR5.out.set [.int .i64 0, .int .i64 0, .int .u64 0, .int .i64 0, .slice none 0 0, .slice none 0 0] rfl)
        have HBN := hid (HB5.out.set (show w.heap.size ≤ rb by rw [HRB.out]; exact Nat.le_refl _) [.int .i64 0, .int .i64 0, .int .u64 0, .int .i64 0, .slice none 0 0, .slice none 0 0])
        have HTH := hid (HR5.out.there 6 (Nat.le_refl _))
        refine wp_region_list ?_
        refine wpList_plain rfl fun K hK => ?_
        go_simp
        refine hK _ _ ?_
        clear hK K
        refine wpList_store_mid rfl 27 (.tmp 2) (.tmp 97) rfl rb 0 #[.int .i64 0, .int .i64 0, .int .u64 0, .int .i64 0, .slice none 0 0, .slice none 0 0] rfl rfl HTH.out inf_Elf (by simp only [List.all_toArray, List.all_cons, List.all_nil]; rfl) ?_
        change wpList _ _ _ _ _ (wA.setCells rb 0 [.int .i64 0, .int .i64 0, .int .u64 0, .int .i64 0, .slice none 0 0, .slice none 0 0])
        generalize wA.setCells rb 0 [.int .i64 0, .int .i64 0, .int .u64 0, .int .i64 0, .slice none 0 0, .slice none 0 0] = wz at *
        go_wp2_with fail
        have p0 := HPN.out.cell 0
        have p1 := HPN.out.cell 1
        have p2 := HPN.out.cell 2
        have p3 := HPN.out.cell 3
        have p4 := HPN.out.cell 4
        have p5 := HPN.out.cell 5
        simp only [List.getElem?_toArray, List.getElem?_cons_zero, List.getElem?_cons_succ] at p0 p1 p2 p3 p4 p5
        refine bodyPost_ret (by simp [results, Try.results11, go_sem, p0, p1, p2, p3, p4, p5]; try rfl) rfl ?_
        exact HBD.out _ _ 2 HBN.out HE.out (by decide) rfl
      | false =>
        have HP2 := hid (show y40 + 64 * y60 ≤ s.size from by
          rw [HM64.out]
          by_cases h : y40 + m64 ≤ s.size
          · exact h
          · have := HCUT.out
            rw [decide_eq_true (show s.size < y40 + m64 by omega), Bool.or_true] at this
            cases this)
        have HP1 := hid (show 0 < y56 → y32 + 56 * y56 ≤ s.size from fun h0 => by
          rw [HM56.out]
          by_cases h : y32 + m56 ≤ s.size
          · exact h
          · have := HCUT.out
            rw [decide_eq_true (show s.size < y32 + m56 by omega), decide_eq_true h0] at this
            cases this)
        have u16 : IntKind.i64.wrap (y16 : Int) = y16 := IntWalk.i64_in _ (by omega)
        have u18 : IntKind.i64.wrap (y18 : Int) = y18 := IntWalk.i64_in _ (by omega)
        have u48 : IntKind.i64.wrap (y48 : Int) = y48 := IntWalk.i64_in _ (by omega)
        have HSEE := hid (show segsE s = firstE (fun i => segE s (y32 + 56 * i)) y56 0 from by unfold segsE segAt; rw [HPA.out, HNS.out])
        have HSLL := hid (show segL s = (List.range y56).map fun i => segC s (y32 + 56 * i) from by unfold segL segAt; rw [HPA.out, HNS.out])
        go_upto_region 13 with fail
        have HEO := hid (Has.new wA 27 #[.int .i64 y16, .int .i64 y18, .int .u64 y24, .int .i64 y48, .slice none 0 0, .slice none 0 0])
        have HRO := hid (HR5.out.alloc (.cells #[.int .i64 y16, .int .i64 y18, .int .u64 y24, .int .i64 y48, .slice none 0 0, .slice none 0 0] 27))
        have HBO := hid (HB5.out.alloc (.cells #[.int .i64 y16, .int .i64 y18, .int .u64 y24, .int .i64 y48, .slice none 0 0, .slice none 0 0] 27))
        obtain ⟨ob, hob⟩ : ∃ ob, wA.heap.size = ob := ⟨_, rfl⟩
        rw [hob] at HEO
        have HOB := hid (show w.heap.size ≤ ob by rw [← hob]; exact HB5.out.size)
        have HRBN := hid (show rb ≠ ob by rw [← hob]; have := HR5.out.lt; omega)
        go_upto_region 14 with (go_at_call 22; with_reducible (first | refine (N16.out _).mono ?_ | refine (N18.out _).mono ?_ | refine (N24.out _).mono ?_ | refine (N48.out _).mono ?_); rintro e w2 ⟨rfl, rfl⟩)
        generalize wA.alloc (.cells #[.int .i64 y16, .int .i64 y18, .int .u64 y24, .int .i64 y48, .slice none 0 0, .slice none 0 0] 27) = wo at *
        clear hob
        obtain ⟨E, hE⟩ : ∃ E, segsE s = E := ⟨_, rfl⟩
        have HEE := hid hE
        rw [hE] at HSEE
        clear hE
        go_upto_if 111 with fail
        go_cut [9] (fun v W => SegW s w rb ob #[.int .i64 0, .int .i64 0, .int .u64 0, .int .i64 0, .slice none 0 0, .slice none 0 0] E (fun a c => #[.int .i64 y16, .int .i64 y18, .int .u64 y24, .int .i64 y48, .slice a y56 c, .slice none 0 0]) v W)
        case first =>
          by_cases z0 : y56 = 0
          · have z1 : ¬ (0 : Int) < (y56 : Int) := by omega
            have HZE := hid z0
            clear z0
            go_wp2
            go_meet
            have e0 := HSEE.out
            rw [HZE.out] at e0
            refine ⟨by rw [e0]; rfl, HBO.out, HRO.out, fun _ => ⟨none, 0, ?_, ?_⟩⟩
            · rw [HZE.out]; exact HEO.out
            · rw [HSLL.out, HZE.out]; exact ⟨rfl, .inl ⟨rfl, rfl⟩⟩
          · have z1 : (0 : Int) < (y56 : Int) := by omega
            have HDS := hid (fun W => dsegments_any s (by omega) y32 y56 (by omega) (HP1.out (by omega)) W)
            have u32 : IntKind.i64.wrap (y32 : Int) = y32 := IntWalk.i64_in _ (by have := HP1.out (by omega); omega)
            clear z0
            go_wp2_with fail
            refine (HDS.out _).mono ?_
            rintro e ws ⟨hbs, hx⟩
            have d4 : ws.cell? ⟨ob, 4, none⟩ = some (.slice none 0 0) := (hbs.has HEO.out).cell 4
            have f4 : ws.frozen? ⟨ob, 4, none⟩ = false := (hbs.has HEO.out).frozen 4
            have HES := hid (hbs.has HEO.out)
            have HRS := hid (hbs.has HRO.out)
            have HBS := hid (HBO.out.trans hbs)
            clear hbs
            rcases hx with ⟨h0, a, c, rfl, hown⟩ | ⟨h0, rfl⟩
            · have HOWN := hid hown
              have H0 := hid h0
              clear hown h0
              go_wp2
              go_meet
              have e0 : E = 0 := by rw [HSEE.out]; exact H0.out
              refine ⟨by rw [e0], Below.setCell (p := ⟨ob, 4, none⟩) HBS.out HOB.out _, HRS.out.far HRBN.out _, fun _ => ⟨a, c, HES.out.put 4 _, ?_⟩⟩
              have ho := HOWN.out
              have hne := own_ne_has ho HES.out (by decide)
              have ho2 := own_keep ho (w' := ws.setCell ⟨ob, 4, none⟩ (.slice a y56 c)) fun b hb => Below.heap_setCell ws ⟨ob, 4, none⟩ _ b (fun e => hne (by rw [hb, e]))
              rw [← HSLL.out] at ho2
              have hl : (segL s).length = y56 := by rw [HSLL.out]; simp
              rw [hl]
              exact own_low (Nat.zero_le _) ho2
            · have H0 := hid h0
              rw [← HSEE.out] at H0 ⊢
              clear h0
              go_wp2
              go_meet
              refine ⟨rfl, Below.setCell (p := ⟨ob, 4, none⟩) HBS.out HOB.out _, HRS.out.far HRBN.out _, fun e0 => absurd e0 H0.out⟩
        case rest =>
          obtain ⟨rfl, hbx, hrx, hgx⟩ := hcut
          have HBX := hid hbx
          have HRX := hid hrx
          have HGX := hid hgx
          generalize wc = wB at *
          clear hbx hrx hgx HEO HRO HBO HB5 HR5
          by_cases hE0 : E = 0
          case neg =>
            have HN0 := hid hE0
            have t0 : (E != 0) = true := by rw [bne_iff_ne]; exact hE0
            clear hE0
            go_upto_region 18 with fail
            have HE := hid (show readE s = E from by rw [read_seg HHE.out HCB.out (by rw [HEE.out]; exact HN0.out), HEE.out])
            have HPN := hid (HRX.out.set [.int .i64 0, .int .i64 0, .int .u64 0, .int .i64 0, .slice none 0 0, .slice none 0 0] rfl)
            have HBN := hid (HBX.out.set (show w.heap.size ≤ rb by rw [HRB.out]; exact Nat.le_refl _) [.int .i64 0, .int .i64 0, .int .u64 0, .int .i64 0, .slice none 0 0, .slice none 0 0])
            have HTH := hid (HRX.out.there 6 (Nat.le_refl _))
            refine wp_region_list ?_
            refine wpList_plain rfl fun K hK => ?_
            go_simp
            refine hK _ _ ?_
            clear hK K
            refine wpList_plain rfl fun K hK => ?_
            go_simp
            refine hK _ _ ?_
            clear hK K
            refine wpList_store_mid rfl 27 (.tmp 2) (.tmp 123) rfl rb 0 #[.int .i64 0, .int .i64 0, .int .u64 0, .int .i64 0, .slice none 0 0, .slice none 0 0] rfl rfl HTH.out inf_Elf (by simp only [List.all_toArray, List.all_cons, List.all_nil]; rfl) ?_
            change wpList _ _ _ _ _ (wB.setCells rb 0 [.int .i64 0, .int .i64 0, .int .u64 0, .int .i64 0, .slice none 0 0, .slice none 0 0])
            generalize wB.setCells rb 0 [.int .i64 0, .int .i64 0, .int .u64 0, .int .i64 0, .slice none 0 0, .slice none 0 0] = wz at *
            go_wp2_with fail
            have p0 := HPN.out.cell 0
            have p1 := HPN.out.cell 1
            have p2 := HPN.out.cell 2
            have p3 := HPN.out.cell 3
            have p4 := HPN.out.cell 4
            have p5 := HPN.out.cell 5
            simp only [List.getElem?_toArray, List.getElem?_cons_zero, List.getElem?_cons_succ] at p0 p1 p2 p3 p4 p5
            refine bodyPost_ret (by simp [results, Try.results11, go_sem, p0, p1, p2, p3, p4, p5]; try rfl) rfl ?_
            exact HBD.out _ _ E HBN.out HE.out HN0.out rfl
          obtain ⟨sa, sc, hgo, hsa⟩ := HGX.out hE0
          have HGO := hid hgo
          have HSA2 := hid hsa
          have HSG0 := hid (show segsE s = 0 from by rw [HEE.out]; exact hE0)
          have t0 : (E != 0) = false := by rw [bne_eq_false_iff_eq]; exact hE0
          clear hE0 hgo hsa HGX
          obtain ⟨m, hm⟩ : ∃ m, y60 - 1 = m := ⟨_, rfl⟩
          have HM := hid (show y60 = m + 1 ∧ 1 ≤ m ∧ m ≤ 1001 by omega)
          have HZO := hid (show ZeroOk s ↔ (∀ i, i < 64 → bt s (y40 + i) = 0) from by unfold ZeroOk; rw [HSA.out])
          have HSCE := hid (show secsE s = firstE (fun i => secE s (y40 + 64 * i)) m 1 from by unfold secsE secAt; rw [HSA.out, HNK.out, hm])
          have HDC := hid (fun W => dsections_any s (by omega) y40 y60 (by omega) (by omega) HP2.out W)
          have u40 : IntKind.i64.wrap (y40 : Int) = y40 := IntWalk.i64_in _ (by have := HP2.out; omega)
          go_wp2_with fail
          refine (HDC.out _).mono ?_
          rintro e wS ⟨hbs, hx⟩
          rw [hm] at hx
          have HGS := hid (hbs.has HGO.out)
          have HSS := hid (hbs.own HSA2.out)
          have HRS := hid (hbs.has HRX.out)
          have HBS := hid (HBX.out.trans hbs)
          have HBSB := hid hbs
          clear hbs hm
          rcases hx with ⟨hz, h0, ao, cp, bo, cn, rfl, hown, hown2⟩ | ⟨hz, rfl⟩ | ⟨hz, h0, rfl⟩
          case inr.inl =>
            have HZ := hid (show ¬ ZeroOk s from fun h => hz (HZO.out.1 h))
            clear hz
            go_upto_region 21 with fail
            have HE := hid (show readE s = 3 from read_zero HHE.out HCB.out HSG0.out HZ.out)
            have HPN := hid (HRS.out.set [.int .i64 0, .int .i64 0, .int .u64 0, .int .i64 0, .slice none 0 0, .slice none 0 0] rfl)
            have HBN := hid (HBS.out.set (show w.heap.size ≤ rb by rw [HRB.out]; exact Nat.le_refl _) [.int .i64 0, .int .i64 0, .int .u64 0, .int .i64 0, .slice none 0 0, .slice none 0 0])
            have HTH := hid (HRS.out.there 6 (Nat.le_refl _))
            refine wp_region_list ?_
            refine wpList_plain rfl fun K hK => ?_
            go_simp
            refine hK _ _ ?_
            clear hK K
            refine wpList_plain rfl fun K hK => ?_
            go_simp
            refine hK _ _ ?_
            clear hK K
            refine wpList_store_mid rfl 27 (.tmp 2) (.tmp 136) rfl rb 0 #[.int .i64 0, .int .i64 0, .int .u64 0, .int .i64 0, .slice none 0 0, .slice none 0 0] rfl rfl HTH.out inf_Elf (by simp only [List.all_toArray, List.all_cons, List.all_nil]; rfl) ?_
            change wpList _ _ _ _ _ (wS.setCells rb 0 [.int .i64 0, .int .i64 0, .int .u64 0, .int .i64 0, .slice none 0 0, .slice none 0 0])
            generalize wS.setCells rb 0 [.int .i64 0, .int .i64 0, .int .u64 0, .int .i64 0, .slice none 0 0, .slice none 0 0] = wz at *
            go_wp2_with fail
            have p0 := HPN.out.cell 0
            have p1 := HPN.out.cell 1
            have p2 := HPN.out.cell 2
            have p3 := HPN.out.cell 3
            have p4 := HPN.out.cell 4
            have p5 := HPN.out.cell 5
            simp only [List.getElem?_toArray, List.getElem?_cons_zero, List.getElem?_cons_succ] at p0 p1 p2 p3 p4 p5
            refine bodyPost_ret (by simp [results, Try.results11, go_sem, p0, p1, p2, p3, p4, p5]; try rfl) rfl ?_
            exact HBD.out _ _ 3 HBN.out HE.out (by decide) rfl
          case inr.inr =>
            have HZ := hid (show ZeroOk s from HZO.out.2 hz)
            have HN0 := hid h0
            obtain ⟨E2, hE2⟩ : ∃ E, firstE (fun i => secE s (y40 + 64 * i)) m 1 = E := ⟨_, rfl⟩
            rw [hE2] at h0 HSCE HN0 ⊢
            have t2 : (E2 != 0) = true := by rw [bne_iff_ne]; exact h0
            clear hz h0 hE2
            go_upto_region 21 with fail
            have HE := hid (show readE s = E2 from by rw [read_sec HHE.out HCB.out HSG0.out HZ.out (by rw [HSCE.out]; exact HN0.out), HSCE.out])
            have HPN := hid (HRS.out.set [.int .i64 0, .int .i64 0, .int .u64 0, .int .i64 0, .slice none 0 0, .slice none 0 0] rfl)
            have HBN := hid (HBS.out.set (show w.heap.size ≤ rb by rw [HRB.out]; exact Nat.le_refl _) [.int .i64 0, .int .i64 0, .int .u64 0, .int .i64 0, .slice none 0 0, .slice none 0 0])
            have HTH := hid (HRS.out.there 6 (Nat.le_refl _))
            refine wp_region_list ?_
            refine wpList_plain rfl fun K hK => ?_
            go_simp
            refine hK _ _ ?_
            clear hK K
            refine wpList_plain rfl fun K hK => ?_
            go_simp
            refine hK _ _ ?_
            clear hK K
            refine wpList_store_mid rfl 27 (.tmp 2) (.tmp 136) rfl rb 0 #[.int .i64 0, .int .i64 0, .int .u64 0, .int .i64 0, .slice none 0 0, .slice none 0 0] rfl rfl HTH.out inf_Elf (by simp only [List.all_toArray, List.all_cons, List.all_nil]; rfl) ?_
            change wpList _ _ _ _ _ (wS.setCells rb 0 [.int .i64 0, .int .i64 0, .int .u64 0, .int .i64 0, .slice none 0 0, .slice none 0 0])
            generalize wS.setCells rb 0 [.int .i64 0, .int .i64 0, .int .u64 0, .int .i64 0, .slice none 0 0, .slice none 0 0] = wz at *
            go_wp2_with fail
            have p0 := HPN.out.cell 0
            have p1 := HPN.out.cell 1
            have p2 := HPN.out.cell 2
            have p3 := HPN.out.cell 3
            have p4 := HPN.out.cell 4
            have p5 := HPN.out.cell 5
            simp only [List.getElem?_toArray, List.getElem?_cons_zero, List.getElem?_cons_succ] at p0 p1 p2 p3 p4 p5
            refine bodyPost_ret (by simp [results, Try.results11, go_sem, p0, p1, p2, p3, p4, p5]; try rfl) rfl ?_
            exact HBD.out _ _ E2 HBN.out HE.out HN0.out rfl
          have HZ := hid (show ZeroOk s from HZO.out.2 hz)
          have HSC0 := hid (show secsE s = 0 from by rw [HSCE.out]; exact h0)
          have HF0 := hid h0
          obtain ⟨g, cp2, hg⟩ := own_some hown (by have := HM.out; omega)
          obtain ⟨rfl, rfl⟩ : ao = some ⟨g, 0, none⟩ ∧ cp = cp2 := by simpa using hg
          obtain ⟨g2, cn2, hg2⟩ := own_some hown2 (by have := HM.out; omega)
          obtain ⟨rfl, rfl⟩ : bo = some ⟨g2, 0, none⟩ ∧ cn = cn2 := by simpa using hg2
          clear hz h0 hg hg2
          have HOL := hid hown
          have HON := hid hown2
          have HGL := hid (show wB.heap.size ≤ g from own_ge hown rfl)
          have HCAP := hid (show m ≤ cp from by obtain ⟨_, cap, _, hv, _, _, h4, _⟩ := hown.2.resolve_left (fun h => by have := h.1; cases this); injection hv with _ _ hv; subst hv; exact h4)
          clear hown hown2
          obtain ⟨r, hr⟩ : ∃ r, m = r + 1 := ⟨m - 1, by have := HM.out; omega⟩
          have HR := hid hr
          have v1 : IntKind.i64.wrap ((m : Int) - 1) = (r : Int) := by rw [IntWalk.i64_in _ (by have := HM.out; omega)]; omega
          have hr0 : (r : Int) < (m : Int) := by omega
          have HMM := HM.out
          obtain ⟨hd, hhd⟩ : ∃ hd, y40 + 64 * m = hd := ⟨_, rfl⟩
          have HHD := hid (show hd = secAt s (nSec s - 1) from by unfold secAt; rw [HSA.out, HNK.out, HMM.1, Nat.add_sub_cancel, hhd])
          have HRG := hid (show wS.rangeAt g (r * 10) (secCell (secC s hd ⟨#[]⟩ (secD s hd))) from own_range HOL.out (r * 10) _ (fun j v hv => by
            have hj : j < 10 := (List.getElem?_eq_some_iff.1 hv).1
            rw [secCells_get _ r (by simp [rawL]; omega) j hj]
            rw [show (rawL s y40 m)[r]'(by simp [rawL]; omega) = secC s hd ⟨#[]⟩ (secD s hd) from by simp only [rawL, List.getElem_map, List.getElem_range]; rw [← hhd, hr]]
            exact hv))
          obtain ⟨t1, f1, a1, z1, k1, i1, l1, c1, hcl, ht1⟩ : ∃ (t1 f1 a1 : Nat) (z1 k1 i1 : Int) (l1 c1 : Nat), secCell (secC s hd ⟨#[]⟩ (secD s hd)) = [.string ⟨#[]⟩, .int .i64 t1, .int .u64 f1, .int .u64 a1, .string (secD s hd), .int .i64 z1, .int .i64 k1, .int .i64 i1, .int .u64 l1, .int .u64 c1] ∧ n4 s (hd + 4) = t1 := ⟨_, _, _, _, _, _, _, _, rfl, rfl⟩
          rw [hcl] at HRG
          have HT1 := hid ht1
          obtain ⟨D, hD⟩ : ∃ D, secD s hd = D := ⟨_, rfl⟩
          have HD := hid hD
          rw [hD] at HRG
          have HDz := hid (show D.size ≤ lim from by rw [← hD]; exact Nat.le_trans (secD_size s hd) hl)
          have HNOK := hid (show NamesOk s ↔ (t1 = 3 ∧ (∀ i, i < m → namK D (n4 s (y40 + 64 * (i + 1))) = true) ∧ namT D (n4 s (y40 + 64 * m)) = ownT) from by
            have e1 : secAt s (nSec s - 1) = hd := HHD.out.symm
            have e2 : lastD s = D := by unfold lastD; rw [e1]; exact hD
            have e3 : ∀ i, namP s i = n4 s (y40 + 64 * i) := fun i => by unfold namP secAt; rw [HSA.out]
            constructor
            · intro h
              refine ⟨?_, fun i hi => ?_, ?_⟩
              · have := h.typ; rw [e1, ht1] at this; exact this
              · have := h.all (i + 1) (by omega) (by rw [HNK.out, HMM.1]; omega); rw [e2, e3] at this; exact this
              · have := h.own; rw [e2, e3, HNK.out, HMM.1, Nat.add_sub_cancel] at this; exact this
            · rintro ⟨a, b, c⟩
              exact ⟨by rw [e1, ht1]; exact a, fun i h1 h2 => by
                rw [e2, e3]
                have := b (i - 1) (by rw [HNK.out, HMM.1] at h2; omega)
                rw [show i - 1 + 1 = i by omega] at this
                exact this, by rw [e2, e3, HNK.out, HMM.1, Nat.add_sub_cancel]; exact c⟩)
          have hm9 : m ≤ 1001 := HMM.2.2
          have HCAP2 := hid (show r ≤ cp by have := HCAP.out; omega)
          clear hcl ht1 hD hr HMM hhd
          go_upto_region 22 with fail
          refine wp_region_list ?_
          refine wpList_plain rfl fun K hK => ?_
          go_simp
          refine hK _ _ ?_
          clear hK K
          refine wpList_plain rfl fun K hK => ?_
          go_simp
          refine hK _ _ ?_
          clear hK K
          refine wpList_plain rfl fun K hK => ?_
          go_simp
          refine hK _ _ ?_
          clear hK K
          refine wpList_plain rfl fun K hK => ?_
          go_simp
          refine hK _ _ ?_
          clear hK K
          refine wpList_plain rfl fun K hK => ?_
          go_simp
          refine hK _ _ ?_
          clear hK K
          refine wpList_load_mid rfl 43 (.tmp 142) rfl g (r * 10) rfl [.string ⟨#[]⟩, .int .i64 t1, .int .u64 f1, .int .u64 a1, .string D, .int .i64 z1, .int .i64 k1, .int .i64 i1, .int .u64 l1, .int .u64 c1] _ HRG.out Try.underlying43 rfl inf_Section ?_
          have HXB := hid (Has.new wS 43 #[.string ⟨#[]⟩, .int .i64 t1, .int .u64 f1, .int .u64 a1, .string D, .int .i64 z1, .int .i64 k1, .int .i64 i1, .int .u64 l1, .int .u64 c1])
          have HGT := hid (HGS.out.alloc (.cells #[.string ⟨#[]⟩, .int .i64 t1, .int .u64 f1, .int .u64 a1, .string D, .int .i64 z1, .int .i64 k1, .int .i64 i1, .int .u64 l1, .int .u64 c1] 43))
          have HRT := hid (HRS.out.alloc (.cells #[.string ⟨#[]⟩, .int .i64 t1, .int .u64 f1, .int .u64 a1, .string D, .int .i64 z1, .int .i64 k1, .int .i64 i1, .int .u64 l1, .int .u64 c1] 43))
          have HBT := hid (HBS.out.alloc (.cells #[.string ⟨#[]⟩, .int .i64 t1, .int .u64 f1, .int .u64 a1, .string D, .int .i64 z1, .int .i64 k1, .int .i64 i1, .int .u64 l1, .int .u64 c1] 43))
          have HBW := hid ((Bw.refl wS).alloc (.cells #[.string ⟨#[]⟩, .int .i64 t1, .int .u64 f1, .int .u64 a1, .string D, .int .i64 z1, .int .i64 k1, .int .i64 i1, .int .u64 l1, .int .u64 c1] 43))
          have HLT := hid (HBW.out.own HOL.out)
          have HNT := hid (HBW.out.own HON.out)
          have HST := hid (HBW.out.own HSS.out)
          obtain ⟨xb, hxb⟩ : ∃ x, wS.heap.size = x := ⟨_, rfl⟩
          have HXG := hid (show g < xb from by rw [← hxb]; exact own_lt HOL.out rfl)
          have HWX := hid (show wB.heap.size ≤ xb from by rw [← hxb]; have := HXG.out; have := HGL.out; omega)
          have HNX := hid (show g2 ≠ g from fun e => by
            obtain ⟨cu, hc⟩ := own_at HOL.out rfl
            obtain ⟨cv, hd⟩ := own_at HON.out rfl
            rw [e, hc] at hd
            injection hd with hd
            injection hd with _ hd
            revert hd; decide)
          have HLW := hid (show wB.heap.size ≤ wS.heap.size from by have := HXG.out; have := HGL.out; omega)
          rw [hxb] at HXB
          have HBB := hid (show Bw wB (wS.alloc (.cells #[.string ⟨#[]⟩, .int .i64 t1, .int .u64 f1, .int .u64 a1, .string D, .int .i64 z1, .int .i64 k1, .int .i64 i1, .int .u64 l1, .int .u64 c1] 43)) from HBSB.out.trans HBW.out)
          go_upto_region 23 with fail
          generalize wS.alloc (.cells #[.string ⟨#[]⟩, .int .i64 t1, .int .u64 f1, .int .u64 a1, .string D, .int .i64 z1, .int .i64 k1, .int .i64 i1, .int .u64 l1, .int .u64 c1] 43) = wT at *
          clear hxb HRG HSS HGS HRS HBS HBSB HBW HOL HON
          have x1 : wT.cell? ⟨xb, 1, none⟩ = some (.int .i64 t1) := HXB.out.cell 1
          by_cases h3 : t1 = 3
          case neg =>
            have HN3 := hid (show ¬ NamesOk s from fun h => h3 (HNOK.out.1 h).1)
            have q3 : ((t1 : Int) != 3) = true := by rw [bne_iff_ne]; omega
            clear h3
            go_upto_region 24 with fail
            have HE := hid (show readE s = 3 from read_nam HHE.out HCB.out HSG0.out HZ.out HSC0.out HN3.out)
            have HPN := hid (HRT.out.set [.int .i64 0, .int .i64 0, .int .u64 0, .int .i64 0, .slice none 0 0, .slice none 0 0] rfl)
            have HBN := hid (HBT.out.set (show w.heap.size ≤ rb by rw [HRB.out]; exact Nat.le_refl _) [.int .i64 0, .int .i64 0, .int .u64 0, .int .i64 0, .slice none 0 0, .slice none 0 0])
            have HTH := hid (HRT.out.there 6 (Nat.le_refl _))
            refine wp_region_list ?_
            refine wpList_plain rfl fun K hK => ?_
            go_simp
            refine hK _ _ ?_
            clear hK K
            refine wpList_store_mid rfl 27 (.tmp 2) (.tmp 147) rfl rb 0 #[.int .i64 0, .int .i64 0, .int .u64 0, .int .i64 0, .slice none 0 0, .slice none 0 0] rfl rfl HTH.out inf_Elf (by simp only [List.all_toArray, List.all_cons, List.all_nil]; rfl) ?_
            change wpList _ _ _ _ _ (wT.setCells rb 0 [.int .i64 0, .int .i64 0, .int .u64 0, .int .i64 0, .slice none 0 0, .slice none 0 0])
            generalize wT.setCells rb 0 [.int .i64 0, .int .i64 0, .int .u64 0, .int .i64 0, .slice none 0 0, .slice none 0 0] = wz at *
            go_wp2_with fail
            have p0 := HPN.out.cell 0
            have p1 := HPN.out.cell 1
            have p2 := HPN.out.cell 2
            have p3 := HPN.out.cell 3
            have p4 := HPN.out.cell 4
            have p5 := HPN.out.cell 5
            simp only [List.getElem?_toArray, List.getElem?_cons_zero, List.getElem?_cons_succ] at p0 p1 p2 p3 p4 p5
            refine bodyPost_ret (by simp [results, Try.results11, go_sem, p0, p1, p2, p3, p4, p5]; try rfl) rfl ?_
            exact HBD.out _ _ 3 HBN.out HE.out (by decide) rfl
          have H3 := hid h3
          have q3 : ((t1 : Int) != 3) = false := by rw [bne_eq_false_iff_eq]; omega
          clear h3
          go_wp2
          clear x1 q3
          have HNA := hid (fun k W => name_any D HDz.out (n4 s (y40 + 64 * (k + 1))) W)
          go_loopw [14] (fun vi wr => ∃ k : Nat, k ≤ m ∧ vi = .int .i64 k ∧ Bw wB wr ∧ Has wr xb 43 #[.string ⟨#[]⟩, .int .i64 t1, .int .u64 f1, .int .u64 a1, .string D, .int .i64 z1, .int .i64 k1, .int .i64 i1, .int .u64 l1, .int .u64 c1] ∧ wr.ownsRow wB.heap.size 43 10 (.slice (some ⟨g, 0, none⟩) m cp) m (secCells (nmL s y40 m D k)) ∧ wr.ownsRow wB.heap.size 23 1 (.slice (some ⟨g2, 0, none⟩) m cn) m (namV s y40 m) ∧ Hid (∀ i, i < k → namK D (n4 s (y40 + 64 * (i + 1))) = true ∧ (i = r → namT D (n4 s (y40 + 64 * (i + 1))) = ownT))) (fun vi _ => m - (intOf vi).toNat)
          case atStart => exact ⟨0, Nat.zero_le _, rfl, HBB.out, HXB.out, by rw [nmL_0]; exact HLT.out, HNT.out, hid (fun i hi => absurd hi (Nat.not_lt_zero i))⟩
          case round =>
            rename World => wr
            obtain ⟨k, hk, rfl, hbr, hxr, hor, hnr, HA⟩ := hrel
            have HBR := hid hbr
            have HXR := hid hxr
            have HOR := hid hor
            have HNR := hid hnr
            clear hbr hor hnr hxr
            by_cases hlt : k < m
            · have hlt1 : (k : Int) < (m : Int) := by omega
              have c4 : wr.cell? ⟨xb, 4, none⟩ = some (.string D) := HXR.out.cell 4
              have ck : wr.cell? ⟨g2, k, none⟩ = some (.int .u64 (n4 s (y40 + 64 * (k + 1)) : Nat)) := own_keys HNR.out hlt
              obtain ⟨y, hy⟩ : ∃ y, n4 s (y40 + 64 * (k + 1)) = y := ⟨_, rfl⟩
              have HY := hid hy
              have HNK2 := hid (HNA.out k)
              rw [hy] at ck HNK2
              obtain ⟨X, hX⟩ : ∃ X, namX D y = X := ⟨_, rfl⟩
              obtain ⟨KB, hKB⟩ : ∃ X, namK D y = X := ⟨_, rfl⟩
              have HNC := hid (fun W => (show Calls Try.prog 26 #[.string D, .int .u64 (y : Nat)] W fun e w' => e = .returned (.tuple #[.string X, .bool KB]) ∧ w' = W from (HNK2.out W).mono fun e w' h => by
                unfold NamQ at h
                rw [hX, hKB] at h
                exact ⟨h.1, h.2.symm⟩))
              have HX := hid hX
              have HKB := hid hKB
              have HLT2 := hid hlt
              clear hy hX hKB HNK2
              go_upto_region 28 with fail
              go_quiet ((go_at_call 26; exact Calls.quiet_of_same (HNC.out _)))
              have HBQ := hid ((Bw.refl wr).drewN nq)
              have HXQ := hid (HBQ.out.has HXR.out)
              have HOQ := hid (HBQ.out.own HOR.out)
              have HNQ := hid (HBQ.out.own HNR.out)
              have HBRQ := hid (HBR.out.trans HBQ.out)
              have HXNG := hid (show xb ≠ g by have := HXG.out; omega)
              generalize wr.drewN nq = wq at *
              clear c4 ck HBR HXR HOR HNR HBQ
              have HRQ := hid (HBRQ.out.has HRX.out)
              have HBWQ := hid (HBX.out.trans HBRQ.out)
              cases KB with
              | false =>
                have HN3 := hid (show ¬ NamesOk s from fun h => by
                  have := (HNOK.out.1 h).2.1 k HLT2.out
                  rw [HY.out, HKB.out] at this
                  cases this)
                go_upto_region 30 with fail
                have HE := hid (show readE s = 3 from read_nam HHE.out HCB.out HSG0.out HZ.out HSC0.out HN3.out)
                have HPN := hid (HRQ.out.set [.int .i64 0, .int .i64 0, .int .u64 0, .int .i64 0, .slice none 0 0, .slice none 0 0] rfl)
                have HBN := hid (HBWQ.out.set (show w.heap.size ≤ rb by rw [HRB.out]; exact Nat.le_refl _) [.int .i64 0, .int .i64 0, .int .u64 0, .int .i64 0, .slice none 0 0, .slice none 0 0])
                have HTH := hid (HRQ.out.there 6 (Nat.le_refl _))
                refine wp_region_list ?_
                refine wpList_plain rfl fun K hK => ?_
                go_simp
                refine hK _ _ ?_
                clear hK K
                refine wpList_store_mid rfl 27 (.tmp 2) (.tmp 177) rfl rb 0 #[.int .i64 0, .int .i64 0, .int .u64 0, .int .i64 0, .slice none 0 0, .slice none 0 0] rfl rfl HTH.out inf_Elf (by simp only [List.all_toArray, List.all_cons, List.all_nil]; rfl) ?_
                change wpList _ _ _ _ _ (wq.setCells rb 0 [.int .i64 0, .int .i64 0, .int .u64 0, .int .i64 0, .slice none 0 0, .slice none 0 0])
                generalize wq.setCells rb 0 [.int .i64 0, .int .i64 0, .int .u64 0, .int .i64 0, .slice none 0 0, .slice none 0 0] = wz at *
                go_wp2_with fail
                have p0 := HPN.out.cell 0
                have p1 := HPN.out.cell 1
                have p2 := HPN.out.cell 2
                have p3 := HPN.out.cell 3
                have p4 := HPN.out.cell 4
                have p5 := HPN.out.cell 5
                simp only [List.getElem?_toArray, List.getElem?_cons_zero, List.getElem?_cons_succ] at p0 p1 p2 p3 p4 p5
                refine bodyPost_ret (by simp [results, Try.results11, go_sem, p0, p1, p2, p3, p4, p5]; try rfl) rfl ?_
                exact HBD.out _ _ 3 HBN.out HE.out (by decide) rfl
              | true =>
                have HXT := hid (show X = namT D y from by rw [← HX.out]; exact namX_ok HKB.out)
                have HSET := hid (show secCells (nmL s y40 m D (k + 1)) = (secCells (nmL s y40 m D k)).set (k * 10) (.string X) from by rw [← nmL_set HLT2.out, HY.out, HXT.out])
                by_cases hkr : k = r
                · have HKR := hid hkr
                  have b1 : ((k : Int) == (r : Int)) = true := by rw [beq_iff_eq]; omega
                  clear hkr
                  by_cases hX : X = ownT
                  · have HXO := hid hX
                    have t5 : (X.toList == [46, 115, 104, 115, 116, 114, 116, 97, 98]) = true := str_is hX
                    clear hX
                    have HA2 := hid (show ∀ i, i < k + 1 → namK D (n4 s (y40 + 64 * (i + 1))) = true ∧ (i = r → namT D (n4 s (y40 + 64 * (i + 1))) = ownT) from fun i hi => by
                      by_cases e : i = k
                      · rw [e, HY.out]
                        exact ⟨HKB.out, fun er => by rw [← HXT.out]; exact HXO.out⟩
                      · exact HA.out i (by omega))
                    obtain ⟨⟨vz, z8⟩, z9⟩ := own_there HOQ.out (i := k * 10) (by omega)
                    have HZ8 := hid (⟨⟨vz, z8⟩, z9⟩ : (∃ v, wq.cell? ⟨g, k * 10, none⟩ = some v) ∧ wq.frozen? ⟨g, k * 10, none⟩ = false)
                    go_wp2
                    exact ⟨⟨k + 1, by have := HLT2.out; omega, by go_num, Below.setCell (p := ⟨g, k * 10, none⟩) HBRQ.out HGL.out _, HXQ.out.far HXNG.out _, by rw [HSET.out]; exact own_set HOQ.out (i := k * 10) (.string X), own_keep HNQ.out fun b hb => Below.heap_setCell _ ⟨g, k * 10, none⟩ _ b (fun e => HNX.out (by have hb : some g2 = some b := hb; injection hb with hb; rw [hb, e])), HA2.out⟩, by have := HLT2.out; simp [intOf]; omega⟩
                  · have t5 : (X.toList == [46, 115, 104, 115, 116, 114, 116, 97, 98]) = false := str_nl hX
                    have HN3 := hid (show ¬ NamesOk s from fun h => hX (by
                      have := (HNOK.out.1 h).2.2
                      rw [HR.out, ← HKR.out, HY.out] at this
                      rw [HXT.out]; exact this))
                    clear hX
                    go_upto_region 30 with fail
                    have HE := hid (show readE s = 3 from read_nam HHE.out HCB.out HSG0.out HZ.out HSC0.out HN3.out)
                    have HPN := hid (HRQ.out.set [.int .i64 0, .int .i64 0, .int .u64 0, .int .i64 0, .slice none 0 0, .slice none 0 0] rfl)
                    have HBN := hid (HBWQ.out.set (show w.heap.size ≤ rb by rw [HRB.out]; exact Nat.le_refl _) [.int .i64 0, .int .i64 0, .int .u64 0, .int .i64 0, .slice none 0 0, .slice none 0 0])
                    have HTH := hid (HRQ.out.there 6 (Nat.le_refl _))
                    refine wp_region_list ?_
                    refine wpList_plain rfl fun K hK => ?_
                    go_simp
                    refine hK _ _ ?_
                    clear hK K
                    refine wpList_store_mid rfl 27 (.tmp 2) (.tmp 177) rfl rb 0 #[.int .i64 0, .int .i64 0, .int .u64 0, .int .i64 0, .slice none 0 0, .slice none 0 0] rfl rfl HTH.out inf_Elf (by simp only [List.all_toArray, List.all_cons, List.all_nil]; rfl) ?_
                    change wpList _ _ _ _ _ (wq.setCells rb 0 [.int .i64 0, .int .i64 0, .int .u64 0, .int .i64 0, .slice none 0 0, .slice none 0 0])
                    generalize wq.setCells rb 0 [.int .i64 0, .int .i64 0, .int .u64 0, .int .i64 0, .slice none 0 0, .slice none 0 0] = wz at *
                    go_wp2_with fail
                    have p0 := HPN.out.cell 0
                    have p1 := HPN.out.cell 1
                    have p2 := HPN.out.cell 2
                    have p3 := HPN.out.cell 3
                    have p4 := HPN.out.cell 4
                    have p5 := HPN.out.cell 5
                    simp only [List.getElem?_toArray, List.getElem?_cons_zero, List.getElem?_cons_succ] at p0 p1 p2 p3 p4 p5
                    refine bodyPost_ret (by simp [results, Try.results11, go_sem, p0, p1, p2, p3, p4, p5]; try rfl) rfl ?_
                    exact HBD.out _ _ 3 HBN.out HE.out (by decide) rfl
                · have HKR := hid hkr
                  have b1 : ((k : Int) == (r : Int)) = false := by rw [beq_eq_false_iff_ne]; omega
                  clear hkr
                  have HA2 := hid (show ∀ i, i < k + 1 → namK D (n4 s (y40 + 64 * (i + 1))) = true ∧ (i = r → namT D (n4 s (y40 + 64 * (i + 1))) = ownT) from fun i hi => by
                    by_cases e : i = k
                    · rw [e, HY.out]
                      exact ⟨HKB.out, fun er => absurd er HKR.out⟩
                    · exact HA.out i (by omega))
                  obtain ⟨⟨vz, z8⟩, z9⟩ := own_there HOQ.out (i := k * 10) (by omega)
                  have HZ8 := hid (⟨⟨vz, z8⟩, z9⟩ : (∃ v, wq.cell? ⟨g, k * 10, none⟩ = some v) ∧ wq.frozen? ⟨g, k * 10, none⟩ = false)
                  go_wp2
                  exact ⟨⟨k + 1, by have := HLT2.out; omega, by go_num, Below.setCell (p := ⟨g, k * 10, none⟩) HBRQ.out HGL.out _, HXQ.out.far HXNG.out _, by rw [HSET.out]; exact own_set HOQ.out (i := k * 10) (.string X), own_keep HNQ.out fun b hb => Below.heap_setCell _ ⟨g, k * 10, none⟩ _ b (fun e => HNX.out (by have hb : some g2 = some b := hb; injection hb with hb; rw [hb, e])), HA2.out⟩, by have := HLT2.out; simp [intOf]; omega⟩
            · have HKM := hid (show k = m by omega)
              have hge : ¬ (k : Int) < (m : Int) := by omega
              have hgo := HBR.out.has HGO.out
              have d5 : wr.cell? ⟨ob, 5, none⟩ = some (.slice none 0 0) := hgo.cell 5
              have f5 := hgo.frozen 5
              have HGF := hid (show Has (wr.setCell ⟨ob, 5, none⟩ (.slice (some ⟨g, 0, none⟩) r cp)) ob 27 #[.int .i64 y16, .int .i64 y18, .int .u64 y24, .int .i64 y48, .slice sa y56 sc, .slice (some ⟨g, 0, none⟩) r cp] from hgo.put 5 (.slice (some ⟨g, 0, none⟩) r cp))
              have HRF := hid (show Has (wr.setCell ⟨ob, 5, none⟩ (.slice (some ⟨g, 0, none⟩) r cp)) rb 27 #[.int .i64 0, .int .i64 0, .int .u64 0, .int .i64 0, .slice none 0 0, .slice none 0 0] from (HBR.out.has HRX.out).far HRBN.out _)
              have HBF := hid (show Bw w (wr.setCell ⟨ob, 5, none⟩ (.slice (some ⟨g, 0, none⟩) r cp)) from Below.setCell (p := ⟨ob, 5, none⟩) (HBX.out.trans HBR.out) HOB.out _)
              have HN4 := hid (show NamesOk s from HNOK.out.2 ⟨H3.out, fun i hi => (HA.out i (by rw [HKM.out]; exact hi)).1, by
                have := (HA.out r (by rw [HKM.out, HR.out]; omega)).2 rfl
                rw [HR.out]; exact this⟩)
              have HSS := hid (HBR.out.own HSA2.out)
              have hne1 := own_ne_has HSS.out hgo (by decide)
              have hne2 := own_ne_has HSS.out (HBR.out.has HRX.out) (by decide)
              have hne3 := own_ne_has HOR.out hgo (by decide)
              have hne4 := own_ne_has HOR.out (HBR.out.has HRX.out) (by decide)
              have HSF := hid (show ((wr.setCell ⟨ob, 5, none⟩ (.slice (some ⟨g, 0, none⟩) r cp)).setCells rb 0 [.int .i64 y16, .int .i64 y18, .int .u64 y24, .int .i64 y48, .slice sa y56 sc, .slice (some ⟨g, 0, none⟩) r cp]).ownsRow 0 61 8 (.slice sa (segL s).length sc) (segL s).length (segCells (segL s)) from own_keep HSS.out fun b hb => two_far _ _ (fun e => hne1 (by rw [hb, e])) (fun e => hne2 (by rw [hb, e])))
              have HOF := hid (show ((wr.setCell ⟨ob, 5, none⟩ (.slice (some ⟨g, 0, none⟩) r cp)).setCells rb 0 [.int .i64 y16, .int .i64 y18, .int .u64 y24, .int .i64 y48, .slice sa y56 sc, .slice (some ⟨g, 0, none⟩) r cp]).ownsRow wB.heap.size 43 10 (.slice (some ⟨g, 0, none⟩) m cp) m (secCells (nmL s y40 m D k)) from own_keep HOR.out fun b hb => two_far _ _ (fun e => hne3 (by rw [hb, e])) (fun e => hne4 (by rw [hb, e])))
              have hj0 : r ≤ cp := HCAP2.out
              clear hgo hne1 hne2 hne3 hne4 hlt
              go_upto_region 33 with fail
              have HPN := hid (HRF.out.set [.int .i64 y16, .int .i64 y18, .int .u64 y24, .int .i64 y48, .slice sa y56 sc, .slice (some ⟨g, 0, none⟩) r cp] rfl)
              have HBN := hid (HBF.out.set (show w.heap.size ≤ rb by rw [HRB.out]; exact Nat.le_refl _) [.int .i64 y16, .int .i64 y18, .int .u64 y24, .int .i64 y48, .slice sa y56 sc, .slice (some ⟨g, 0, none⟩) r cp])
              have HTH := hid (HRF.out.there 6 (Nat.le_refl _))
              generalize wr.setCell ⟨ob, 5, none⟩ (.slice (some ⟨g, 0, none⟩) r cp) = wf at *
              clear d5 f5
              refine wp_region_list ?_
              refine wpList_load_mid rfl 27 (.tmp 8) rfl ob 0 rfl [.int .i64 y16, .int .i64 y18, .int .u64 y24, .int .i64 y48, .slice sa y56 sc, .slice (some ⟨g, 0, none⟩) r cp] _ HGF.out.range Try.underlying27 rfl inf_Elf ?_
              refine wpList_store_mid rfl 27 (.tmp 2) (.tmp 189) rfl rb 0 #[.int .i64 y16, .int .i64 y18, .int .u64 y24, .int .i64 y48, .slice sa y56 sc, .slice (some ⟨g, 0, none⟩) r cp] rfl rfl HTH.out inf_Elf (by simp only [List.all_toArray, List.all_cons, List.all_nil]; rfl) ?_
              change wpList _ _ _ _ _ (wf.setCells rb 0 [.int .i64 y16, .int .i64 y18, .int .u64 y24, .int .i64 y48, .slice sa y56 sc, .slice (some ⟨g, 0, none⟩) r cp])
              generalize wf.setCells rb 0 [.int .i64 y16, .int .i64 y18, .int .u64 y24, .int .i64 y48, .slice sa y56 sc, .slice (some ⟨g, 0, none⟩) r cp] = wz at *
              go_wp2_with fail
              have p0 := HPN.out.cell 0
              have p1 := HPN.out.cell 1
              have p2 := HPN.out.cell 2
              have p3 := HPN.out.cell 3
              have p4 := HPN.out.cell 4
              have p5 := HPN.out.cell 5
              simp only [List.getElem?_toArray, List.getElem?_cons_zero, List.getElem?_cons_succ] at p0 p1 p2 p3 p4 p5
              obtain ⟨hE0, hM0⟩ := read_ok HHE.out HCB.out HSG0.out HZ.out HSC0.out HN4.out
              have hl1 : (segL s).length = y56 := by rw [HSLL.out]; simp
              have hl2 : (secL s).length = r := by unfold secL; rw [HNK.out, HM.out.1, HR.out]; simp
              refine bodyPost_ret (by simp [results, Try.results11, go_sem, p0, p1, p2, p3, p4, p5]; try rfl) rfl ?_
              refine ⟨HBN.out, sa, sc, some ⟨g, 0, none⟩, cp, ?_, ?_⟩
              · rw [hM0, hE0]
                show _ = Ending.returned (.tuple #[.agg #[.int .i64 ((n2 s 16 : Nat) : Int), .int .i64 ((n2 s 18 : Nat) : Int), .int .u64 ((n8 s 24 : Nat) : Int), .int .i64 ((n4 s 48 : Nat) : Int), .slice sa (segL s).length sc, .slice (some ⟨g, 0, none⟩) (secL s).length cp], .int .i64 0])
                rw [HY16.out, HY18.out, HY24.out, HY48.out, hl1, hl2]
              · rw [hM0]
                have hq := HOF.out
                have hlen : (nmL s y40 m D k).length = m := nmL_len
                refine ⟨SegAt.of_own HSF.out (segs_ok HSG0.out), (SecAt.of_own (B := wB.heap.size) (cap := cp) (l := nmL s y40 m D k) (by rw [hlen]; exact hq) (raw_ok (by omega) (fun i hi => by
                  split
                  · exact Nat.le_trans (by unfold namT; simp; omega) (show D.size ≤ s.size by rw [← HD.out]; exact secD_size _ _)
                  · exact Nat.zero_le _) HF0.out)).pre fun i hi => ?_⟩
                have hi' : i < r := by have : i < (secL s).length := hi; rw [hl2] at this; exact this
                have him : i < m := by rw [HR.out]; omega
                refine ⟨by rw [hlen]; exact him, ?_⟩
                rw [nmL_get him, if_pos (by rw [HKM.out]; exact him)]
                have e2 : lastD s = D := by unfold lastD; rw [← HHD.out]; exact HD.out
                simp only [modelP, secL, List.getElem_map, List.getElem_range]
                unfold namP secAt
                rw [e2, HSA.out]
end Go.Proofs.Ytciaebhkemdilaa

/- The plain text of an expression (contract of the function; numbers' digits are a premise still). -/
import Derived.Test.YtlilmidffcmkjaaGreatDoorExpQc
import Derived.Test.YtlilmidffcmkjaaGreatDoorExpVb
namespace Go.Proofs.YtlilmidffcmkjaaGreatDoor
open Go.RowKit
set_option linter.unusedVariables false
set_option linter.unusedSimpArgs false
theorem expression_any (w0 : World) (p : Nat) (a : Option Addr) (len cap : Nat) (hlen : len ≤ 400) (l : List ExpR) (hcB : checkB l = true) (hll : Hid (l.length = len)) (hst : ExpAt w0 a l) (hS : SgnAt w0) (HU : PowAt w0) :
    ∀ (m i : Nat), i < m → i < l.length → ∀ w v s, PrS w0 w p a len cap v s → s.length ≤ 1000000 → Calls Tryz.prog 22 #[.pointer (some ⟨p, 0, none⟩), .int .i64 i] w (PrP w0 w p a len cap s (txt l i) (max s.length (20000 + 30 * (i + 1))))
  | 0, i, h, _ => by omega
  | m + 1, i, h, hi => fun w v s hs hz =>
    expression_step w0 p a len cap hlen l hcB hll hst hS i hi HU (fun x hx least hle W v' s' hs' hz' =>
      part_any w0 p a len cap hlen l hll hst hS x (by omega) least hle (fun W2 v2 s2 h2 k2 => expression_any w0 p a len cap hlen l hcB hll hst hS HU m x (by omega) (by omega) W2 v2 s2 h2 k2) W v' s' hs' hz') w v s hs hz
/-- What Print answers. -/
def printX (l : List ExpR) (i : Int) : ByteArray × Int := if idxE l i = 0 then (if (txt l i.toNat).length ≤ 20000 then (⟨(txt l i.toNat).toArray⟩, 0) else (⟨#[]⟩, 11)) else (⟨#[]⟩, idxE l i)
set_option maxRecDepth 100000 in
set_option maxHeartbeats 4000000 in
theorem print_any (a : Option Addr) (len cap : Nat) (hlen : len ≤ 9223372036854775807) (l : List ExpR) (hll : Hid (l.length = len)) (i : Int) (w : World) (hst : ExpAt w a l) (hS : SgnAt w) (HU : PowAt w) :
    Calls Tryz.prog 12 #[.slice a len cap, .int .i64 i] w fun e w' => e = .returned (.tuple #[.string (printX l i).1, .int .i64 (printX l i).2]) ∧ Bw w w' := by
  have HC := hid (checkIndex_any a len cap hlen l hll i w hst hS)
  have HI := hid (show printX l i = if idxE l i = 0 then (if (txt l i.toNat).length ≤ 20000 then (⟨(txt l i.toNat).toArray⟩, 0) else (⟨#[]⟩, 11)) else (⟨#[]⟩, idxE l i) from rfl)
  have HX := hid (show idxE l i = if checkB l then (if 0 ≤ i ∧ i < l.length then 0 else 1) else 9 from rfl)
  generalize hid0 : idxE l i = er at *
  by_cases d : er = 0
  · subst d
    have hB : checkB l = true := by
      cases h : checkB l with
      | true => rfl
      | false => have := HX.out; rw [h] at this; cases this
    have hr : 0 ≤ i ∧ i < l.length := by
      have := HX.out
      rw [if_pos hB] at this
      by_cases h : 0 ≤ i ∧ i < l.length
      · exact h
      · rw [if_neg h] at this; cases this
    obtain ⟨i, rfl⟩ := Int.eq_ofNat_of_zero_le hr.1
    have hil : i < l.length := by omega
    have h4 : len ≤ 400 := by
      rw [← hll.out]
      unfold checkB at hB
      rw [Bool.and_eq_true, decide_eq_true_eq] at hB
      exact hB.1
    have HI2 := hid (show printX l (i : Nat) = (if (txt l i).length ≤ 20000 then (⟨(txt l i).toArray⟩, 0) else (⟨#[]⟩, 11)) from HI.out.trans (if_pos rfl))
    have HE := hid (fun w0 (hb : Bw w w0) p W v s h hz => expression_any w0 p a len cap h4 l hB hll (hst.below hb) (hS.bw hb) (HU.bw hb) (i + 1) i (by omega) hil W v s h hz)
    clear HI HX hid0 hB hr hst hS
    go_enter Tryz.func12, Tryz.ntmps12
    go_wp2_with fail
    refine HC.out.mono ?_
    rintro e w2 ⟨rfl, hb⟩
    have HB := hid hb
    clear hb
    have HP := hid (show PrS w2 (w2.alloc (.cells #[.slice a len cap, .slice none 0 0] 64)) w2.heap.size a len cap (.slice none 0 0) [] from
      ⟨Has.new w2 _ _, ⟨by simp [bcs], .inl ⟨rfl, rfl⟩⟩, (Bw.refl w2).alloc _, Nat.le_refl _⟩)
    go_wp2_with fail
    refine (HE.out w2 HB.out _ _ _ _ HP.out (by simp)).mono ?_
    rintro e w3 ⟨v3, s3, rfl, hs3, hk3, hg3⟩
    obtain ⟨a3, ca3, rfl⟩ := own_slice hs3.row
    have HF := hid (full_any w2 w3 _ a len cap _ s3 hs3)
    have e1 := hs3.pr.cell 1
    simp at e1
    have HR3 := hid hs3.row
    have HB3 := hid (HB.out.trans hs3.bw)
    have hgl := hg3.2
    simp only [List.nil_append, List.length_nil] at hgl
    clear hs3 hk3 hg3
    by_cases hf : 20000 < s3.length
    · have dd := decide_eq_true hf
      rw [dd] at HF
      have hbig : ¬ (txt l i).length ≤ 20000 := by
        rcases hgl with ⟨h, _⟩ | ⟨_, _, h⟩ <;> omega
      have HI3 := hid (HI2.out.trans (if_neg hbig))
      clear hgl
      go_wp2_with fail
      refine HF.out.mono ?_
      rintro e w4 ⟨rfl, rfl⟩
      go_wp2
      go_returns
      exact ⟨by rw [HI3.out]; rfl, HB3.out⟩
    · have dd := decide_eq_false hf
      rw [dd] at HF
      have hs : s3 = txt l i := by
        rcases hgl with ⟨_, h⟩ | ⟨h, _⟩
        · exact h
        · omega
      have HI3 := hid (show printX l (i : Nat) = (⟨s3.toArray⟩, 0) from HI2.out.trans (by rw [← hs]; exact if_pos (by omega)))
      clear hgl hs
      go_wp2_with fail
      refine HF.out.mono ?_
      rintro e w4 ⟨rfl, rfl⟩
      go_wp2
      have hcv := conv_bytes (n := s3.length) rfl HR3.out
      (try rw [hcv])
      (try go_wp2)
      (try go_returns)
      all_goals exact ⟨by rw [HI3.out]; rfl, HB3.out⟩
  · have td : (er != 0) = true := by simpa using d
    have HI2 := hid (HI.out.trans (if_neg d))
    clear HI HX hid0 hst hS
    go_enter Tryz.func12, Tryz.ntmps12
    go_wp2_with fail
    refine HC.out.mono ?_
    rintro e w2 ⟨rfl, hb⟩
    have HB := hid hb
    clear hb
    go_wp2
    go_returns
    exact ⟨by rw [HI2.out]; rfl, HB.out⟩
end Go.Proofs.YtlilmidffcmkjaaGreatDoor

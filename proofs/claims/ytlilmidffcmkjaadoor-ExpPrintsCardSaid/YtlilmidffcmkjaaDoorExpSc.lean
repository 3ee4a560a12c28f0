/- The document's plain text of an expression, and its Print (contracts of the functions). -/
import Derived.Test.YtlilmidffcmkjaaDoorExpSb
import Derived.Test.YtlilmidffcmkjaaDoorExpL
import Derived.Test.YtlilmidffcmkjaaDoorExpQd
namespace Go.Proofs.YtlilmidffcmkjaaDoor
open Go.RowKit
set_option linter.unusedVariables false
set_option linter.unusedSimpArgs false
theorem text_any (w0 : World) (a : Option Addr) (len cap : Nat) (hlen : len ≤ 400) (l : List ExpR) (hcB : checkB l = true) (hll : Hid (l.length = len)) (hst : ExpAt w0 a l) :
    ∀ (m i : Nat), i < m → i < l.length → ∀ level : Nat, level ≤ 7 → ∀ W v s, Bw w0 W → W.ownsRow w0.heap.size 5 1 v s.length (bcs s) → s.length ≤ 1000000 → Calls Tryd.prog 26 #[v, .slice a len cap, .int .i64 i, .int .i64 level] W (TxP w0 W s (prt l i level) (max s.length (20000 + 40 * (i + 1))))
  | 0, i, h, _ => by omega
  | m + 1, i, h, hi => fun level hle W v s hb hr hsz => by
    by_cases c : 20000 < s.length ∨ (l[i]'hi).op = ⟨#[]⟩
    · exact text_leaf w0 a len cap hlen l hcB hll hst i hi level hle W hb v s hr hsz c
    · exact text_op w0 a len cap hlen l hcB hll hst i hi level hle (fun x hx lv hlv W' v' s' hb' hr' hz' => text_any w0 a len cap hlen l hcB hll hst m x (by omega) (by omega) lv hlv W' v' s' hb' hr' hz') W hb v s hr (fun h => c (.inl h)) (fun h => c (.inr h))
theorem prt_zero (l : List ExpR) (i : Nat) : prt l i 0 = txt l i := by
  unfold prt
  rw [if_pos (.inr (Nat.zero_le _))]
set_option maxRecDepth 100000 in
set_option maxHeartbeats 4000000 in
theorem rprint_any (a : Option Addr) (len cap : Nat) (hlen : len ≤ 9223372036854775807) (l : List ExpR) (hll : Hid (l.length = len)) (i : Int) (w : World) (hst : ExpAt w a l) :
    Calls Tryd.prog 12 #[.slice a len cap, .int .i64 i] w fun e w' => e = .returned (.tuple #[.string (printX l i).1, .int .i64 (printX l i).2]) ∧ Bw w w' := by
  have HC := hid (rcheck_any a len cap hlen l hll w hst)
  have HI := hid (show printX l i = if idxE l i = 0 then (if (txt l i.toNat).length ≤ 20000 then (⟨(txt l i.toNat).toArray⟩, 0) else (⟨#[]⟩, 11)) else (⟨#[]⟩, idxE l i) from rfl)
  have HX := hid (show idxE l i = if checkB l then (if 0 ≤ i ∧ i < l.length then 0 else 1) else 9 from rfl)
  have HK := hid (show checkX l = if checkB l then 0 else 9 from rfl)
  have HST := hid hst
  clear hst
  cases hB : checkB l with
  | false =>
    rw [hB] at HX HK
    have hk : checkX l = 9 := HK.out
    have hx : idxE l i = 9 := HX.out
    have HI2 := hid (show printX l i = (⟨#[]⟩, 9) from by rw [HI.out, hx]; rfl)
    rw [hk] at HC
    clear HI HX HK hx hk hB
    go_enter Tryd.func12, Tryd.ntmps12
    go_wp2_with fail
    refine HC.out.mono ?_
    rintro e w2 ⟨rfl, hb⟩
    have HB := hid hb
    clear hb
    go_wp2
    go_returns
    exact ⟨by rw [HI2.out]; rfl, HB.out⟩
  | true =>
    have HCB := hid hB
    rw [hB] at HX HK
    have hk : checkX l = 0 := HK.out
    have HX2 := hid (show idxE l i = if 0 ≤ i ∧ i < l.length then 0 else 1 from HX.out)
    rw [hll.out] at HX2
    rw [hk] at HC
    clear HX HK hk hB
    by_cases h0 : 0 ≤ i
    · by_cases h1 : i < len
      · obtain ⟨i, rfl⟩ := Int.eq_ofNat_of_zero_le h0
        have HX3 := hid (HX2.out.trans (if_pos ⟨h0, h1⟩))
        have HI2 := hid (HI.out.trans (if_pos HX3.out))
        rw [Int.toNat_natCast] at HI2
        have h0n : ¬ (i : Int) < 0 := by omega
        have h1n : ¬ (len : Int) ≤ i := by omega
        have hil : i < l.length := by rw [hll.out]; omega
        have h1m : ¬ len ≤ i := by omega
        have d0 : decide ((i : Int) < 0) = false := decide_eq_false h0n
        have d1 : decide (len ≤ i) = false := decide_eq_false h1m
        have h4 : l.length ≤ 400 := by
          have hB := HCB.out
          unfold checkB at hB
          rw [Bool.and_eq_true, decide_eq_true_eq] at hB
          exact hB.1
        have h44 : len ≤ 400 := by rw [← hll.out]; exact h4
        have HT := hid (fun W (h : Bw w W) => text_any W a len cap h44 l HCB.out hll (HST.out.below h) (i + 1) i (by omega) hil 0 (by omega) W (.slice none 0 0) [] (Bw.refl _) (World.ownsRow_nil _ _ _ _) (by simp))
        rw [prt_zero] at HT
        clear HX2 HI h4
        go_enter Tryd.func12, Tryd.ntmps12
        go_wp2_with fail
        refine HC.out.mono ?_
        rintro e w2 ⟨rfl, hb⟩
        have HB := hid hb
        clear hb
        go_wp2_with fail
        refine (HT.out _ (by first | exact HB.out | exact HB.out.drewN 1)).mono ?_
        rintro e w3 ⟨v3, s3, rfl, hr, hk, hg⟩
        obtain ⟨a3, c3, rfl⟩ := own_slice hr
        have HR := hid hr
        have HB3 := hid (show Bw w w3 from by
          first
            | exact Below.trans HB.out (hk.below HB.out.size (Nat.le_refl _))
            | exact Below.trans (HB.out.drewN 1) (hk.below HB.out.size (Nat.le_refl _)))
        have hgl := hg.2
        simp only [List.nil_append, List.length_nil] at hgl
        clear hr hk hg
        by_cases hf : 20000 < s3.length
        · have t3 : (20000 : Int) < s3.length := by omega
          have hbig : ¬ (txt l i).length ≤ 20000 := by
            rcases hgl with ⟨h, _⟩ | ⟨_, _, h⟩ <;> omega
          have HI3 := hid (HI2.out.trans (if_neg hbig))
          clear hgl hf hbig
          go_wp2
          go_returns
          exact ⟨by rw [HI3.out]; rfl, HB3.out⟩
        · have t3 : ¬ (20000 : Int) < s3.length := by omega
          have hs : s3 = txt l i := by
            rcases hgl with ⟨_, h⟩ | ⟨h, _⟩
            · exact h
            · omega
          have HI3 := hid (show printX l (i : Nat) = (⟨s3.toArray⟩, 0) from HI2.out.trans (by rw [← hs]; exact if_pos (by omega)))
          have hcv := conv_bytes (n := s3.length) rfl HR.out
          clear hgl hs hf
          go_wp2
          (try rw [hcv])
          (try go_wp2)
          (try go_returns)
          all_goals exact ⟨by rw [HI3.out]; rfl, HB3.out⟩
      · have HX3 := hid (HX2.out.trans (if_neg (fun h => h1 h.2)))
        have HI2 := hid (show printX l i = (⟨#[]⟩, 1) from HI.out.trans (by rw [HX3.out]; rfl))
        have h0n : ¬ i < 0 := by omega
        have h1n : (len : Int) ≤ i := by omega
        clear HX2 HI HX3
        go_enter Tryd.func12, Tryd.ntmps12
        go_wp2_with fail
        refine HC.out.mono ?_
        rintro e w2 ⟨rfl, hb⟩
        have HB := hid hb
        clear hb
        go_wp2
        go_returns
        exact ⟨by rw [HI2.out]; rfl, by first | exact HB.out | exact HB.out.drewN 1⟩
    · have HX3 := hid (HX2.out.trans (if_neg (fun h => h0 h.1)))
      have HI2 := hid (show printX l i = (⟨#[]⟩, 1) from HI.out.trans (by rw [HX3.out]; rfl))
      have h0n : i < 0 := by omega
      clear HX2 HI HX3
      go_enter Tryd.func12, Tryd.ntmps12
      go_wp2_with fail
      refine HC.out.mono ?_
      rintro e w2 ⟨rfl, hb⟩
      have HB := hid hb
      clear hb
      go_wp2
      go_returns
      exact ⟨by rw [HI2.out]; rfl, by first | exact HB.out | exact HB.out.drewN 1⟩
end Go.Proofs.YtlilmidffcmkjaaDoor

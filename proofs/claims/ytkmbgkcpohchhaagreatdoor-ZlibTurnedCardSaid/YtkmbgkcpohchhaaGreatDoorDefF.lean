import Derived.Test.YtkmbgkcpohchhaaGreatDoorGDefV
import Derived.Test.YtkmbgkcpohchhaaGreatDoorMapF
/- Deflate: the shortest of the three (contract of the function). -/
namespace Go.Proofs.YtkmbgkcpohchhaaGreatDoor
open Go.RowKit Go.Conc
set_option linter.unusedVariables false
def short2 (a b : ByteArray) : ByteArray := if b.size < a.size then b else a
/-- The shortest of the three. -/
def defS (s : ByteArray) (ts : List TokR) : ByteArray := short2 (short2 ⟨(stoL s.data.toList).toArray⟩ (outS (fixP ts))) (outS (dynP ts))
theorem exp_cost (lim : Int) : ∀ (l : List TokR) (out r : List UInt8), expGo lim l out = (0, r) → costOk l = true
  | [], _, _, _ => rfl
  | t :: l, out, r, h => by
    rw [expGo] at h
    split at h
    · rename_i c
      have h1 := exp_cost lim l _ r h
      have h2 : tokOk t = true := by
        unfold tokOk
        unfold tokE at c
        cases hb : isB t with
        | true => rfl
        | false =>
          cases hm : isM t with
          | true => rfl
          | false => rw [hb, hm] at c; simp at c
      unfold costOk at h1 ⊢
      rw [List.all_cons, h2, h1]
      rfl
    · rename_i c
      injection h with h1 _
      exact absurd h1 c
theorem toks_lit {w : World} {a : Option Addr} {ts : List TokR} (h : ToksAt w a ts) : ∀ t ∈ ts, t.lit < 256 := fun t ht => by
  obtain ⟨i, hi, rfl⟩ := List.getElem_of_mem ht
  obtain ⟨_, _, _, _, _, _, _, h⟩ := h i hi
  exact h
set_option maxRecDepth 100000 in
set_option maxHeartbeats 4000000 in
theorem Deflate_any (s : ByteArray) (hs : s.size ≤ 1000000) (w : World) (hO : OrdAt w) :
    Calls Tryz.prog 14 #[.string s] w fun e w' => ∃ ts : List TokR, FindOk s ts ∧ e = .returned (.string (defS s ts)) ∧ Bw w w' ∧ ts = findL s := by
  have HS := hid (Stored_any s (by omega) w)
  have HF := hid (fun W => find_any s hs W)
  have HO := hid hO
  clear hO
  go_enter Tryz.func14, Tryz.ntmps14
  go_wp2_with fail
  refine HS.out.mono ?_
  rintro e w1 ⟨rfl, hb1⟩
  have HB1 := hid hb1
  clear hb1 HS
  go_wp2_with fail
  refine (HF.out w1).mono ?_
  rintro e w2 ⟨ts, a, cap, rfl, hfo, htk, hb2, _, hfl⟩
  have HFL := hid hfl
  clear hfl
  obtain ⟨n, hn⟩ : ∃ n, ts.length = n := ⟨_, rfl⟩
  have hn6 : n ≤ 1000000 := by have := hfo.2.2.1; omega
  have hok := exp_cost _ _ _ _ hfo.2.1
  have HFX := hid (fun W (hW : Bw w2 W) => Fixed_ok a n cap hn6 ts (hid hn) hok W (htk.below hW))
  have HDY := hid (fun W (hW : Bw w2 W) => Dynamic_ok a n cap hn6 ts (hid hn) hok W (htk.below hW) (HO.out.bw ((HB1.out.trans hb2).trans hW)))
  have HFO := hid hfo
  have HB2 := hid (HB1.out.trans hb2)
  have HR := hid (show defS s ts = short2 (short2 ⟨(stoL s.data.toList).toArray⟩ (outS (fixP ts))) (outS (dynP ts)) from rfl)
  rw [hn]
  clear hn hok hfo htk hb2 HF
  generalize (⟨(stoL s.data.toList).toArray⟩ : ByteArray) = st at *
  generalize outS (fixP ts) = fx at *
  generalize outS (dynP ts) = dy at *
  go_wp2_with fail
  have HL := hid (Has.new w2 26 #[.func (.func 24) #[] #[], .func (.func 10) #[] #[]])
  have HB3 := hid ((Bw.refl w2).alloc (.cells #[.func (.func 24) #[] #[], .func (.func 10) #[] #[]] 26))
  generalize w2.alloc (.cells #[.func (.func 24) #[] #[], .func (.func 10) #[] #[]] 26) = W3 at *
  have c0 := HL.out.cell 0
  refine wp_loop_rounds 3 ?_
  rw [rounds_succ]
  go_wp2_with fail
  refine (HFX.out W3 HB3.out).mono ?_
  rintro e w4 ⟨rfl, hb4⟩
  have HB4 := hid (HB3.out.trans hb4)
  have c1 := (hb4.has HL.out).cell 1
  clear hb4 c0
  by_cases h1 : fx.size < st.size
  · have h1i : (fx.size : Int) < st.size := by omega
    have HX := hid (show short2 st fx = fx from if_pos h1)
    clear h1
    go_wp2_with fail
    rw [rounds_succ]
    go_wp2_with fail
    refine (HDY.out w4 HB4.out).mono ?_
    rintro e w5 ⟨rfl, hb5⟩
    have HB5 := hid (HB4.out.trans hb5)
    clear hb5
    by_cases h2 : dy.size < fx.size
    · have h2i : (dy.size : Int) < fx.size := by omega
      have HE := hid (show defS s ts = dy by rw [HR.out, HX.out]; exact if_pos h2)
      clear h2
      go_wp2_with fail
      rw [rounds_succ]
      go_wp2
      go_returns
      exact ⟨ts, HFO.out, by rw [HE.out]; rfl, HB2.out.trans HB5.out, HFL.out⟩
    · have h2i : decide (dy.size < fx.size) = false := decide_eq_false h2
      have HE := hid (show defS s ts = fx by rw [HR.out, HX.out]; exact if_neg h2)
      clear h2
      go_wp2_with fail
      rw [rounds_succ]
      go_wp2
      go_returns
      exact ⟨ts, HFO.out, by rw [HE.out]; rfl, HB2.out.trans HB5.out, HFL.out⟩
  · have h1i : decide (fx.size < st.size) = false := decide_eq_false h1
    have HX := hid (show short2 st fx = st from if_neg h1)
    clear h1
    go_wp2_with fail
    rw [rounds_succ]
    go_wp2_with fail
    refine (HDY.out w4 HB4.out).mono ?_
    rintro e w5 ⟨rfl, hb5⟩
    have HB5 := hid (HB4.out.trans hb5)
    clear hb5
    by_cases h2 : dy.size < st.size
    · have h2i : (dy.size : Int) < st.size := by omega
      have HE := hid (show defS s ts = dy by rw [HR.out, HX.out]; exact if_pos h2)
      clear h2
      go_wp2_with fail
      rw [rounds_succ]
      go_wp2
      go_returns
      exact ⟨ts, HFO.out, by rw [HE.out]; rfl, HB2.out.trans HB5.out, HFL.out⟩
    · have h2i : decide (dy.size < st.size) = false := decide_eq_false h2
      have HE := hid (show defS s ts = st by rw [HR.out, HX.out]; exact if_neg h2)
      clear h2
      go_wp2_with fail
      rw [rounds_succ]
      go_wp2
      go_returns
      exact ⟨ts, HFO.out, by rw [HE.out]; rfl, HB2.out.trans HB5.out, HFL.out⟩
end Go.Proofs.YtkmbgkcpohchhaaGreatDoor

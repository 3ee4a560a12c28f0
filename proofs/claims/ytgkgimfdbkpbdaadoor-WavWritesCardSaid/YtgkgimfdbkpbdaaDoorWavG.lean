/- Split (contract of the function). -/
import Derived.Test.YtgkgimfdbkpbdaaDoorWavF
namespace Go.Proofs.YtgkgimfdbkpbdaaDoor
open Go.RowKit
set_option linter.unusedVariables false
set_option linter.unusedSimpArgs false
/-- What Split answers. -/
def SplitQ (s : ByteArray) (w : World) (e : Ending) (w' : World) : Prop :=
  ∃ a c, e = .returned (.tuple #[.string (splitP s).1, .slice a (splitP s).2.1.length c, .int .i64 (splitP s).2.2]) ∧ Bw w w' ∧ ChkAt w' a (splitP s).2.1
theorem SplitQ.bad {s : ByteArray} {w w' : World} {e : Ending} {E : Int} (hp : splitP s = (⟨#[]⟩, [], E)) (he : e = .returned (.tuple #[.string ⟨#[]⟩, .slice none 0 0, .int .i64 E])) (hb : Bw w w') : SplitQ s w e w' := by
  refine ⟨none, 0, ?_, hb, ?_⟩
  · rw [hp, he]; rfl
  · rw [hp]; exact fun i hi => absurd hi (Nat.not_lt_zero i)
theorem SplitQ.good {s : ByteArray} {w w' : World} {e : Ending} {F : ByteArray} {l : List ChkR} {a : Option Addr} {n c : Nat} (hp : splitP s = (F, l, 0)) (hn : l.length = n) (he : e = .returned (.tuple #[.string F, .slice a n c, .int .i64 0])) (hb : Bw w w') (ha : ChkAt w' a l) : SplitQ s w e w' := by
  subst hn
  refine ⟨a, c, ?_, hb, ?_⟩
  · rw [hp, he]
  · rw [hp]; exact ha
theorem splitP_head {s : ByteArray} (h : headE s ≠ 0) : splitP s = (⟨#[]⟩, [], headE s) := if_pos h
theorem splitP_bad {s : ByteArray} {E : Int} {l : List ChkR} (h : headE s = 0) (h2 : splGo s s.size 12 [] = (E, l)) (hE : E ≠ 0) : splitP s = (⟨#[]⟩, [], E) := by
  unfold splitP
  rw [if_neg (by rw [h]; decide), h2, if_pos hE]
theorem splitP_ok {s : ByteArray} {l : List ChkR} (h : headE s = 0) (h2 : splGo s s.size 12 [] = (0, l)) : splitP s = (s.extract 8 12, l, 0) := by
  unfold splitP
  rw [if_neg (by rw [h]; decide), h2, if_neg (fun h => h rfl)]
theorem splGo_bad {s : ByteArray} {f p : Nat} {acc : List ChkR} (hp : p < s.size) (hf : s.size - p ≤ f) (hE : chkE s p ≠ 0) : splGo s f p acc = (chkE s p, []) := by
  obtain ⟨f, rfl⟩ : ∃ g, f = g + 1 := ⟨f - 1, by omega⟩
  rw [splGo, if_neg (by omega), if_pos hE]
theorem splGo_next {s : ByteArray} {f p : Nat} {acc : List ChkR} (hp : p < s.size) (hf : s.size - p ≤ f) (hE : chkE s p = 0) : ∃ g, s.size - chkN s p ≤ g ∧ splGo s f p acc = splGo s g (chkN s p) (acc ++ [chkC s p]) := by
  obtain ⟨f, rfl⟩ : ∃ g, f = g + 1 := ⟨f - 1, by omega⟩
  refine ⟨f, by unfold chkN; omega, ?_⟩
  rw [splGo, if_neg (by omega), if_neg (by rw [hE]; exact fun h => h rfl)]
theorem splGo_end {s : ByteArray} {f p : Nat} {acc : List ChkR} (hp : s.size ≤ p) : splGo s f p acc = (0, acc) := by
  cases f with
  | zero => rfl
  | succ f => rw [splGo, if_pos hp]
theorem chkC_ok {s : ByteArray} (hs : s.size ≤ 100000000) (p : Nat) : (chkC s p).Ok := by
  unfold chkC
  refine ⟨?_, ?_⟩
  · show (s.extract p (p + 4)).size ≤ _; simp; omega
  · show (s.extract (p + 8) (p + 8 + num4 s (p + 4))).size ≤ _; simp; omega
theorem headE_ne {s : ByteArray} : headE s = 0 → 12 ≤ s.size := fun h => by
  unfold headE at h
  by_cases h2 : s.size < 12
  · rw [if_pos h2] at h; cases h
  · omega
set_option maxRecDepth 100000 in
set_option maxHeartbeats 8000000 in
theorem split_any (s : ByteArray) (hs : s.size ≤ 100000000) (w : World) :
    Calls Tryd.prog 10 #[.string s] w (SplitQ s w) := by
  obtain ⟨i0, hinf, hz0, hz1, hz2⟩ := info_parts chkInfo
  have HF := hid (fun W => formOf_any s hs W)
  have HOF := hid (fun W => of_any s W)
  obtain ⟨wb, hwb⟩ : ∃ wb, w.heap.size = wb := ⟨_, rfl⟩
  by_cases hh : headE s = 0
  · rw [hh] at HF
    have h12 := headE_ne hh
    obtain ⟨fm, hfm⟩ : ∃ fm, s.extract 8 12 = fm := ⟨_, rfl⟩
    have hfz : fm.size ≤ 12 := by rw [← hfm]; simp; omega
    have HCL := hid (fun W => lib_Clone fm (by omega) W)
    obtain ⟨⟨rE, rL⟩, hR⟩ : ∃ r, splGo s s.size 12 [] = r := ⟨_, rfl⟩
    have HR := hid hR
    have HOK := hid (fun (h : rE = 0) => (show splitP s = (fm, rL, 0) from by rw [splitP_ok hh (by rw [hR, h]), hfm]))
    have HBAD := hid (fun (h : rE ≠ 0) => splitP_bad hh hR h)
    have HF2 : Hid (∀ W, Calls Tryd.prog 21 #[.agg #[.int .i64 0, .string s]] W fun e w' => e = .returned (.tuple #[.string fm, .int .i64 0]) ∧ Bw W w') := hid (fun W => by
      have h := HF.out W
      rw [hfm] at h
      exact h)
    clear hh hR hfm HF
    have HCK := hid (fun p (hp : p ≤ s.size) W => chunkAt_any s hs p hp W)
    go_enter Tryd.func10, Tryd.ntmps10
    go_wp2_with fail
    refine (HOF.out _).mono ?_
    rintro e w2 ⟨rfl, hb2⟩
    have HB3 := hid (hb2.alloc (.cells #[.int .i64 0, .string s] 45))
    have HW3 := hid (Has.new w2 45 #[.int .i64 0, .string s])
    obtain ⟨g, hg⟩ : ∃ g, w2.heap.size = g := ⟨_, rfl⟩
    rw [hg] at HW3
    clear hb2
    go_wp2_with fail
    generalize w2.alloc (.cells #[.int .i64 0, .string s] 45) = w3 at *
    refine (HF2.out _).mono ?_
    rintro e w4 ⟨rfl, hb4⟩
    have HB4 := hid (HB3.out.trans hb4)
    have HW4 := hid (hb4.has HW3.out)
    clear hb4 HB3 HW3 hg
    go_wp2
    go_loopw [8, 9] (fun vl vp wr => ∃ (p f : Nat) (acc : List ChkR), vp = .int .i64 p ∧ 12 ≤ p ∧ p ≤ s.size ∧ s.size - p ≤ f ∧ acc.length * 8 ≤ p ∧ Hid (splGo s f p acc = (rE, rL)) ∧ wr.ownsRow w.heap.size 42 2 vl acc.length (chkCells acc) ∧ Hid (∀ c ∈ acc, c.Ok) ∧ Bw w wr ∧ Has wr g 45 #[.int .i64 0, .string s]) (fun _ vp _ => s.size - (intOf vp).toNat)
    case atStart => exact ⟨12, s.size, [], rfl, Nat.le_refl _, h12, by omega, by simp, HR, World.ownsRow_nil _ _ _ _, hid (fun c hc => by cases hc), HB4.out, HW4.out⟩
    case round =>
      rename World => wr
      obtain ⟨p, f, acc, rfl, hp12, hps, hf, hal, HG, hrow, HOKs, hw, hwin⟩ := hrel
      have HW := hid hw
      have HROW := hid hrow
      have HWIN := hid hwin
      by_cases hlt : p < s.size
      · have c0 : (p : Int) < s.size := by omega
        have m0 := hwin.cell 0
        have m1 := hwin.cell 1
        simp at m0 m1
        have HC := hid (HCK.out p hps wr)
        clear hw hwin hrow
        by_cases hE : chkE s p = 0
        · have hO : chkO s p = ((chkC s p).typ, (chkC s p).dat, chkN s p, 0) := if_pos hE
          rw [hO] at HC
          obtain ⟨g2, hg2, hnx⟩ := splGo_next (acc := acc) hlt hf hE
          have hn0 := (chkE_0 hE).2.2
          have hn8 : p + 8 ≤ chkN s p := by unfold chkN; omega
          have HG2 := hid (hnx.symm.trans HG.out)
          have hxok := chkC_ok hs p
          have HXO := hid hxok
          obtain ⟨x, hx⟩ : ∃ x, chkC s p = x := ⟨_, rfl⟩
          obtain ⟨q, hq⟩ : ∃ q, chkN s p = q := ⟨_, rfl⟩
          rw [hx] at HC HG2 HXO
          rw [hq] at HC HG2 hn0 hn8 hg2
          clear hx hq hnx hO hE hxok
          obtain ⟨xt, xd⟩ := x
          simp only at HC
          go_wp2_with fail
          refine HC.out.mono ?_
          rintro e w5 ⟨rfl, hb5⟩
          have HB5 := hid (HW.out.trans hb5)
          have HR5 := hid (hb5.own HROW.out)
          have HN5 := hid (hb5.has HWIN.out)
          clear hb5 m0 m1
          obtain ⟨ao, cp, rfl⟩ := own_slice HROW.out
          have HB6 := hid (HB5.out.alloc (.cells #[.string xt, .string xd] 42))
          have HR6 := hid (((Bw.refl w5).alloc (.cells #[.string xt, .string xd] 42)).own HR5.out)
          have HN6 := hid (HN5.out.alloc (.cells #[.string xt, .string xd] 42))
          have HX6 := hid (Has.new w5 42 #[.string xt, .string xd])
          have hs6 := HB6.out.size
          obtain ⟨gx, hgx⟩ : ∃ gx, w5.heap.size = gx := ⟨_, rfl⟩
          rw [hgx] at HX6
          go_upto_region 11 with fail
          generalize w5.alloc (.cells #[.string xt, .string xd] 42) = w6 at *
          clear HR5 HN5 HB5 hgx
          have x0 := HX6.out.cell 0
          have x1 := HX6.out.cell 1
          simp at x0 x1
          go_wp2_with (at_builtin; refine wpList_append_own_at _ rfl _ _ 23 rfl w.heap.size 42 i0 (.agg #[.string ⟨#[]⟩, .string ⟨#[]⟩]) 2 32 Tryd.underlying23 hinf hz0 hz1 hz2 rfl (by decide) _ _ _ rfl (((Bw.refl w6).alloc (.cells #[.string xt, .string xd] 42)).own HR6.out) ⟨w6.heap.size, 0, none⟩ 1 1 [.string xt, .string xd] rfl rfl (own_two _ _ _ _) (by intro u hu; simp at hu; rcases hu with rfl | rfl <;> rfl) (by unfold maxLen; omega) (by omega) (by simp; omega) ?_; intro v7 w7 hown7 hgrow7 _ _; have HO7 := hid hown7; have HG7 := hid hgrow7; clear hown7 hgrow7)
          have HR6a := hid (((Bw.refl w6).alloc (.cells #[.string xt, .string xd] 42)).own HR6.out)
          have HB7 := hid (show Bw w w7 from Below.trans (HB6.out.alloc _) (own_grownJ HR6a.out HG7.out (by simp; omega)))
          have HN7 := hid (has_grown (HN6.out.alloc (.cells #[.string xt, .string xd] 42)) HG7.out (own_ne_has HR6a.out (HN6.out.alloc _) (by decide)))
          refine ⟨⟨q, g2, acc ++ [⟨xt, xd⟩], by go_num, by omega, hn0, hg2, by simp; omega, HG2, ?_, hid (fun c hc => ?_), HB7.out, HN7.out⟩, by simp [intOf]; omega⟩
          · rw [chkCells_snoc, List.length_append]
            exact HO7.out
          · rcases List.mem_append.1 hc with h | h
            · exact HOKs.out c h
            · rw [List.mem_singleton] at h
              rw [h]; exact HXO.out
        · have hO := chkO_bad rfl hE
          rw [hO.1, hO.2.1, hO.2.2.1, hO.2.2.2] at HC
          have hrr := (splGo_bad (acc := acc) hlt hf hE).symm.trans HG.out
          have hre : chkE s p = rE := congrArg Prod.fst hrr
          have HBD := hid (HBAD.out (by rw [← hre]; exact hE))
          rw [hre] at HC hE
          clear hO hrr hre
          have t0 : (rE == 0) = false := beq_eq_false_iff_ne.2 hE
          clear hE
          go_wp2_with fail
          refine HC.out.mono ?_
          rintro e w5 ⟨rfl, hb5⟩
          have HB6 := hid ((HW.out.trans hb5).alloc (.cells #[.string ⟨#[]⟩, .string ⟨#[]⟩] 42))
          clear hb5 m0 m1
          go_wp2
          go_returns
          exact SplitQ.bad HBD.out rfl HB6.out
      · have hrr := (splGo_end (f := f) (acc := acc) (s := s) (p := p) (by omega)).symm.trans HG.out
        have hre : 0 = rE := congrArg Prod.fst hrr
        have hrl : acc = rL := congrArg Prod.snd hrr
        have HOK2 := hid (HOK.out hre.symm)
        have c0 : ¬ (p : Int) < s.size := by omega
        clear hrr hre hw hwin hrow
        subst hrl
        obtain ⟨ao, cp, rfl⟩ := own_slice HROW.out
        go_wp2_with fail
        refine (HCL.out _).mono ?_
        rintro e w5 ⟨rfl, hb5⟩
        have HB5 := hid (HW.out.trans hb5)
        have HA5 := hid (ChkAt.of_own (hb5.own HROW.out) HOKs.out)
        clear hb5
        go_wp2
        go_returns
        exact SplitQ.good HOK2.out rfl rfl HB5.out HA5.out
  · have HB := hid (splitP_head hh)
    have HF2 := hid (fun W => (HF.out W).mono (fun e W' h => (show e = .returned (.tuple #[.string ⟨#[]⟩, .int .i64 (headE s)]) ∧ Bw W W' from ⟨by rw [h.1, if_neg hh], h.2⟩)))
    obtain ⟨E, hE⟩ : ∃ E, headE s = E := ⟨_, rfl⟩
    rw [hE] at HF2 HB hh
    have t0 : (E == 0) = false := beq_eq_false_iff_ne.2 hh
    clear hE hh HF
    go_enter Tryd.func10, Tryd.ntmps10
    go_wp2_with fail
    refine (HOF.out _).mono ?_
    rintro e w2 ⟨rfl, hb2⟩
    have HB3 := hid (hb2.alloc (.cells #[.int .i64 0, .string s] 45))
    clear hb2
    go_wp2_with fail
    generalize w2.alloc (.cells #[.int .i64 0, .string s] 45) = w3 at *
    refine (HF2.out _).mono ?_
    rintro e w4 ⟨rfl, hb4⟩
    have HB4 := hid (HB3.out.trans hb4)
    clear hb4
    go_wp2
    go_returns
    exact SplitQ.bad HB.out rfl HB4.out
end Go.Proofs.YtgkgimfdbkpbdaaDoor

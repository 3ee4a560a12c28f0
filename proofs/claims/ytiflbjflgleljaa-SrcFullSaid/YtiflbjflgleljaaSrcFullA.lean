/- SrcFull returns true for every text, list of ints, place and number, and changes nothing that was there; no condition. -/
import Derived.Test.YtiflbjflgleljaaSrcI
import Derived.ProofKit
import Derived.OpenShut
import Derived.ShutString
import Derived.ChangeOld
namespace Go.Proofs.Ytiflbjflgleljaa.srcFull
open Go.RowKit Go.ChangeShapes Go.WideShapes Go.ChangeAt
set_option linter.unusedVariables false

theorem stepInfo : (Try.prog.info? 60).map (fun i => (i.zero, i.size, i.bytes)) = some (some (.agg #[.int .i64 0, .int .i64 0]), 2, 16) := by kernel_rfl
/-- The cells of a slice of ints. -/
def IntsAt (w : World) (a : Option Addr) (zs : List Int) : Prop :=
  ∀ i (h : i < zs.length), ∃ b off, a = some ⟨b, off, none⟩ ∧ b < w.heap.size ∧ w.cell? ⟨b, off + i, none⟩ = some (.int .i64 (zs[i]'h))
theorem IntsAt.below {w w' : World} {a : Option Addr} {zs : List Int} (h : IntsAt w a zs) (hb : Below w.heap.size w w') : IntsAt w' a zs := fun i hi => by
  obtain ⟨b, off, e, hl, h0⟩ := h i hi
  exact ⟨b, off, e, Nat.lt_of_lt_of_le hl hb.size, (hb.cell (p := ⟨b, _, none⟩) hl).trans h0⟩
/-- The script of the first k. -/
def scr (zs : List Int) (k : Nat) : List (Int × Int) := (zs.take k).map fun z => (1, z)
def scrCells (l : List (Int × Int)) : List Value := l.flatMap fun x => [.int .i64 x.1, .int .i64 x.2]
theorem scr_len (zs : List Int) (k : Nat) (h : k ≤ zs.length) : (scr zs k).length = k := by simp [scr]; omega
theorem scr_succ (zs : List Int) (k : Nat) (h : k < zs.length) : scr zs (k + 1) = scr zs k ++ [(1, zs[k])] := by
  unfold scr; rw [List.take_succ_eq_append_getElem h, List.map_append]; rfl
theorem scrCells_get (l : List (Int × Int)) : ∀ i (h : i < l.length), (scrCells l)[i * 2]? = some (.int .i64 (l[i]'h).1) ∧ (scrCells l)[i * 2 + 1]? = some (.int .i64 (l[i]'h).2) := by
  induction l with
  | nil => intro i h; simp at h
  | cons x t ih =>
    intro i h
    cases i with
    | zero => simp [scrCells]
    | succ j =>
      have := ih j (by simpa using h)
      have e : scrCells (x :: t) = .int .i64 x.1 :: .int .i64 x.2 :: scrCells t := by simp [scrCells]
      rw [e, show (j + 1) * 2 = j * 2 + 1 + 1 by omega]
      simpa using this
/-- No entry of the first k is below zero. -/
def Pos (zs : List Int) (k : Nat) : Prop := ∀ x ∈ scr zs k, x.1 = 1 ∧ 0 ≤ x.2
theorem pos_ok {zs : List Int} {k : Nat} (hk : k ≤ zs.length) (h2 : k ≤ 200) (h : Pos zs k) : newOk (scr zs k) = true := by
  unfold newOk
  rw [Bool.and_eq_true]
  refine ⟨by rw [scr_len zs k hk]; simp; omega, List.all_eq_true.2 fun x hx => ?_⟩
  obtain ⟨h1, h2⟩ := h x hx
  exact decide_eq_true (.inr ⟨h1, h2⟩)
theorem own_steps {w : World} {B : Nat} {v : Value} {l : List (Int × Int)} (h : w.ownsRow B 60 2 v l.length (scrCells l)) : ∃ a cap, v = .slice a l.length cap ∧ StepsAt w a l := by
  rcases h.2 with ⟨rfl, h0⟩ | ⟨g, cap, cur, rfl, _, hh, _⟩
  · have : l = [] := List.length_eq_zero_iff.1 h0
    subst this
    exact ⟨none, 0, rfl, fun i hi => by simp at hi⟩
  · refine ⟨_, cap, rfl, fun i hi => ?_⟩
    have hc := h.cells (g := g) rfl
    have hg : g < w.heap.size := by
      rcases Nat.lt_or_ge g w.heap.size with h | h
      · exact h
      · rw [Array.getElem?_eq_none h] at hh; cases hh
    obtain ⟨e1, e2⟩ := scrCells_get l i hi
    have c1 := hc _ _ e1
    have c2 := hc _ _ e2
    have a1 : (Addr.add ⟨g, 0, none⟩ (i * 2)) = ⟨g, 0 + i * 2, none⟩ := by unfold Addr.add; by_cases hz : i * 2 = 0 <;> simp [hz]
    have a2 : (Addr.add ⟨g, 0, none⟩ (i * 2 + 1)) = ⟨g, 0 + i * 2 + 1, none⟩ := by unfold Addr.add; simp
    rw [a1] at c1
    rw [a2] at c2
    exact ⟨g, 0, rfl, hg, c1, c2⟩
theorem own_grown {w w1 w2 : World} {B : Nat} {e : TypeId} {size n : Nat} {v : Value} {xs : List Value} (h : w.ownsRow B e size v n xs) (hg : w1.grownBy w2 v.ownBlock) (hB : B ≤ w1.heap.size) : Below B w1 w2 :=
  ⟨hg.os, hg.tape, hg.output, hg.size, fun i hi => hg.block i (by omega) (fun hx => by
    rcases h.2 with ⟨hv, _⟩ | ⟨g', cp, cur, hv, hg', _⟩
    · subst hv
      cases hx
    · subst hv
      have hx2 : some i = some g' := hx
      injection hx2 with hx3
      omega)⟩
theorem far_zero (s : ByteArray) (p : Nat) : s.extract p (p + (⟨#[]⟩ : ByteArray).size) = ⟨#[]⟩ := by
  have hz : (s.extract p (p + (⟨#[]⟩ : ByteArray).size)).size = 0 := by
    have : (⟨#[]⟩ : ByteArray).size = 0 := rfl
    simp only [ByteArray.size_extract]; omega
  have h2 : (s.extract p (p + (⟨#[]⟩ : ByteArray).size)).data = #[] := Array.eq_empty_of_size_eq_zero hz
  show (⟨(s.extract p (p + (⟨#[]⟩ : ByteArray).size)).data⟩ : ByteArray) = ⟨#[]⟩
  rw [h2]
theorem full_B (B : Nat) (g : Nat) (s : ByteArray) (hs : s.size ≤ 140737488351232) (l : List (Int × Int)) (hok : OkAll l) (hl : l.length ≤ 1000) (p n : Nat) (hp : p ≤ 9223372036854775807) (hn : n ≤ 1048576) (V : ByteArray) (E : Int) (h1 : (fullGo s p n (l.length + 1) l ⟨#[]⟩ []).1 = V) (h2 : (fullGo s p n (l.length + 1) l ⟨#[]⟩ []).2.1 = E) (w : World) (hB : B ≤ w.heap.size) (h : SrcF (B ≤ ·) w g s l []) :
    Calls Try.prog 33 #[.pointer (some ⟨g, 0, none⟩), .int .i64 p, .int .i64 n] w fun e w' => e = .returned (.tuple #[.string V, .int .i64 E]) ∧ Below B w w' := by
  refine (full_ok (B ≤ ·) g s hs [] l (by simp; omega) hok p n hp hn w h).mono fun e w' h => ?_
  obtain ⟨he, _, hK⟩ := h
  exact ⟨by rw [he, h1, h2], hK.below hB fun i hi => hi⟩

set_option maxRecDepth 100000 in
set_option maxHeartbeats 2000000 in
theorem walk_all (s : ByteArray) (hs : s.size ≤ 140737488351232) (A : Option Addr) (len cap : Nat) (hlen : len ≤ 9223372036854775807) (zs : List Int) (hll : Hid (zs.length = len)) (p n : Nat) (hp : p + n ≤ s.size) (hn : n ≤ 1048576) (w : World) (hst : IntsAt w A zs) :
    Calls Try.prog 11 #[.agg #[.string s, .slice A len cap, .int .i64 p, .int .i64 n]] w fun e w' => e = .returned (.bool true) ∧ Bw w w' := by
  obtain ⟨i0, hi, hz0, hz1, hz2⟩ := info_parts stepInfo
  have HSW := hid hst
  clear hst
  go_enter Try.func11, Try.ntmps11
  go_wp2_with fail
  go_quiet (fail)
  have hb0 : Bw w ((w.alloc (.cells #[.string s, .slice A len cap, .int .i64 p, .int .i64 n] 77)).drewN nq) := ((Bw.refl w).alloc _).drewN _
  have HS0 := hid (HSW.out.below hb0)
  clear HSW
  generalize (w.alloc (.cells #[.string s, .slice A len cap, .int .i64 p, .int .i64 n] 77)).drewN nq = W0 at *
  go_wp2_with fail
  go_loopw [7, 8] (fun v i wr => ∃ k : Nat, k ≤ len ∧ k ≤ 200 ∧ i = .int .i64 k ∧ wr.ownsRow W0.heap.size 60 2 v k (scrCells (scr zs k)) ∧ Bw W0 wr ∧ Pos zs k) (fun _ i _ => 201 - (intOf i).toNat)
  case atStart => exact ⟨0, Nat.zero_le _, by omega, rfl, World.ownsRow_nil _ _ _ _, Bw.refl _, fun x hx => by simp [scr] at hx⟩
  case round =>
    obtain ⟨k, hk, hk2, rfl, hown, hbw, hpos⟩ := hrel
    have HOW := hid hown
    have HPO := hid hpos
    have HBW := hid hbw
    have hbz : W0.heap.size ≤ wr.heap.size := hbw.size
    clear hown hpos hbw
    by_cases hlt : k < len
    · by_cases h200 : k < 200
      · have hkz : k < zs.length := by rw [hll.out]; exact hlt
        obtain ⟨bb, off, rfl, hbb, hcc⟩ := (HS0.out.below HBW.out) k hkz
        obtain ⟨z, hz⟩ : ∃ z, zs[k] = z := ⟨_, rfl⟩
        rw [hz] at hcc
        have HZ := hid hz
        clear hz
        by_cases hneg : z < 0
        · go_wp2_with fail
          refine (live2_any _).mono ?_
          rintro e w9 ⟨rfl, h9⟩
          go_wp2
          go_returns
          exact ⟨rfl, hb0.trans (HBW.out.trans h9)⟩
        · go_wp2_with (at_builtin; refine wpList_append_own_at _ rfl (.tmp 37) (.tmp 43) 51 rfl W0.heap.size 60 i0 (.agg #[.int .i64 0, .int .i64 0]) 2 16 Try.underlying51 hi hz0 hz1 hz2 rfl (by decide) _ k (scrCells (scr zs k)) rfl (HOW.out.alloc _) ⟨wr.heap.size, 0, none⟩ 1 1 [.int .i64 1, .int .i64 z] rfl rfl (own_two _ _ _ _) (by intro u hu; simp at hu; rcases hu with rfl | rfl <;> rfl) (by unfold maxLen; omega) (by omega) (by simp; omega) ?_; intro v' w5 hown5 hgrow5 _ _)
          go_roundw
          case rel =>
            refine ⟨k + 1, by omega, by omega, by go_num, ?_, ?_, ?_⟩
            · rw [scr_succ zs k hkz, HZ.out]
              have e : scrCells (scr zs k ++ [(1, z)]) = scrCells (scr zs k) ++ [.int .i64 1, .int .i64 z] := by simp [scrCells]
              rw [e]
              exact hown5
            · exact Below.trans (HBW.out.alloc _) (own_grown HOW.out hgrow5 (by simp; omega))
            · intro x hx
              rw [scr_succ zs k hkz, HZ.out] at hx
              rcases List.mem_append.1 hx with h | h
              · exact HPO.out x h
              · rw [List.mem_singleton.1 h]; exact ⟨rfl, by show 0 ≤ z; omega⟩
          case measure => simp [intOf]; omega
      · have d1 : decide ((k : Int) < 200) = false := by simp; omega
        have hkz : k ≤ zs.length := by rw [hll.out]; exact hk
        have hOK := hid (pos_ok hkz hk2 HPO.out)
        have hSL := hid (scr_len zs k hkz)
        have hSH : Hid (Shorts (scr zs k)) := hid HPO.out
        have how2 := HOW.out
        rw [← hSL.out] at how2
        obtain ⟨a2, cap2, rfl, hst2⟩ := own_steps (l := scr zs k) (by rw [hSL.out] at how2 ⊢; exact how2)
        rw [hSL.out]
        have HST2 := hid hst2
        clear hst2 how2 HOW
        go_wp2_with fail
        refine (new_any s a2 k cap2 (scr zs k) hSL.out _ HST2.out).mono ?_
        intro e w1 h0
        obtain ⟨g, rfl, hF1, hb1⟩ := new_good hOK.out h0
        clear h0
        have HF1 := hid hF1
        clear hF1
        have hfa := full_all s p n hp hn (scr zs k) hSH.out ⟨#[]⟩ [] (far_zero s p).symm (Nat.zero_le _)
        have q3 : ((s.extract p (p + n)).toList == (s.extract p (p + n)).toList) = true := by simp
        go_wp2_with fail
        refine (full_B wr.heap.size g s hs (scr zs k) (newOk_all hOK.out) (by rw [hSL.out]; omega) p n (by omega) hn _ 0 hfa.1 hfa.2 _ hb1.size HF1.out).mono ?_
        rintro e w2 ⟨rfl, hb2⟩
        go_wp2_with fail
        refine (live2_any _).mono ?_
        rintro e w9 ⟨rfl, h9⟩
        go_wp2
        go_returns
        exact ⟨rfl, hb0.trans (HBW.out.trans (Bw.trans (Below.trans hb1 hb2 : Bw wr w2) h9))⟩
    · have hkz : k ≤ zs.length := by rw [hll.out]; exact hk
      have hOK := hid (pos_ok hkz hk2 HPO.out)
      have hSL := hid (scr_len zs k hkz)
      have hSH : Hid (Shorts (scr zs k)) := hid HPO.out
      have how2 := HOW.out
      rw [← hSL.out] at how2
      obtain ⟨a2, cap2, rfl, hst2⟩ := own_steps (l := scr zs k) (by rw [hSL.out] at how2 ⊢; exact how2)
      rw [hSL.out]
      have HST2 := hid hst2
      clear hst2 how2 HOW
      go_wp2_with fail
      refine (new_any s a2 k cap2 (scr zs k) hSL.out _ HST2.out).mono ?_
      intro e w1 h0
      obtain ⟨g, rfl, hF1, hb1⟩ := new_good hOK.out h0
      clear h0
      have HF1 := hid hF1
      clear hF1
      have hfa := full_all s p n hp hn (scr zs k) hSH.out ⟨#[]⟩ [] (far_zero s p).symm (Nat.zero_le _)
      have q3 : ((s.extract p (p + n)).toList == (s.extract p (p + n)).toList) = true := by simp
      go_wp2_with fail
      refine (full_B wr.heap.size g s hs (scr zs k) (newOk_all hOK.out) (by rw [hSL.out]; omega) p n (by omega) hn _ 0 hfa.1 hfa.2 _ hb1.size HF1.out).mono ?_
      rintro e w2 ⟨rfl, hb2⟩
      go_wp2_with fail
      refine (live2_any _).mono ?_
      rintro e w9 ⟨rfl, h9⟩
      go_wp2
      go_returns
      exact ⟨rfl, hb0.trans (HBW.out.trans (Bw.trans (Below.trans hb1 hb2 : Bw wr w2) h9))⟩
end Go.Proofs.Ytiflbjflgleljaa.srcFull

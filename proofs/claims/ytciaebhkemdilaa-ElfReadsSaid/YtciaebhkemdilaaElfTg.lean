import Derived.Test.YtciaebhkemdilaaElfL
import Derived.Test.YtciaebhkemdilaaElfXg
import Derived.Test.YtciaebhkemdilaaElfZg
/- Same of models that are the same (contract of the document's function). -/
namespace Go.Proofs.Ytciaebhkemdilaa
open Go.RowKit
set_option linter.unusedVariables false
set_option linter.unusedSimpArgs false
theorem SegAt.bw {w w' : World} {a : Option Addr} {l : List SegR} (h : SegAt w a l) (hb : Bw w w') : SegAt w' a l := h.below hb
theorem SecAt.bw {w w' : World} {a : Option Addr} {l : List SecR} (h : SecAt w a l) (hb : Bw w w') : SecAt w' a l := h.below hb
theorem ElfAt.bw {w w' : World} {m : ElfR} {a b : Option Addr} (h : ElfAt w m a b) (hb : Bw w w') : ElfAt w' m a b := ⟨h.1.bw hb, h.2.bw hb⟩
set_option maxRecDepth 100000 in
set_option maxHeartbeats 8000000 in
/-- The same models are the same. -/
theorem sameM_eq (m : ElfR) (a b a2 b2 : Option Addr) (n k c d c2 d2 : Nat) (hn : m.segs.length = n) (hk : m.secs.length = k) (hn9 : n ≤ 1000000) (hk9 : k ≤ 1000000) (w : World) (ha : ElfAt w m a b) (hb : ElfAt w m a2 b2) :
    Calls Try.prog 12 #[.agg #[.int .i64 m.typ, .int .i64 m.mac, .int .u64 m.ent, .int .i64 m.flg, .slice a n c, .slice b k d], .agg #[.int .i64 m.typ, .int .i64 m.mac, .int .u64 m.ent, .int .i64 m.flg, .slice a2 n c2, .slice b2 k d2]] w fun e w' => e = .returned (.bool true) ∧ Bw w w' := by
  obtain ⟨ty, ma, en, fl, sg, sc⟩ := m
  simp only at hn hk ⊢
  have HA := hid (show SegAt w a sg from ha.1)
  have HB := hid (show SegAt w a2 sg from hb.1)
  have HC := hid (show SecAt w b sc from ha.2)
  have HD := hid (show SecAt w b2 sc from hb.2)
  have HN := hid hn
  have HK := hid hk
  clear ha hb hn hk
  have HX2 := hid ((Has.new w 27 #[.int .i64 ty, .int .i64 ma, .int .u64 en, .int .i64 fl, .slice a n c, .slice b k d]).alloc (.cells #[.int .i64 ty, .int .i64 ma, .int .u64 en, .int .i64 fl, .slice a2 n c2, .slice b2 k d2] 27))
  have HX3 := hid (Has.new (w.alloc (.cells #[.int .i64 ty, .int .i64 ma, .int .u64 en, .int .i64 fl, .slice a n c, .slice b k d] 27)) 27 #[.int .i64 ty, .int .i64 ma, .int .u64 en, .int .i64 fl, .slice a2 n c2, .slice b2 k d2])
  simp only [World.size_alloc] at HX3
  have HW := hid (((Bw.refl w).alloc (.cells #[.int .i64 ty, .int .i64 ma, .int .u64 en, .int .i64 fl, .slice a n c, .slice b k d] 27)).alloc (.cells #[.int .i64 ty, .int .i64 ma, .int .u64 en, .int .i64 fl, .slice a2 n c2, .slice b2 k d2] 27))
  obtain ⟨g, hg⟩ : ∃ g, w.heap.size = g := ⟨_, rfl⟩
  rw [hg] at HX2 HX3
  go_enter Try.func12, Try.ntmps12
  go_upto_region 1 with fail
  generalize (w.alloc (.cells #[.int .i64 ty, .int .i64 ma, .int .u64 en, .int .i64 fl, .slice a n c, .slice b k d] 27)).alloc (.cells #[.int .i64 ty, .int .i64 ma, .int .u64 en, .int .i64 fl, .slice a2 n c2, .slice b2 k d2] 27) = w1 at *
  have x0 : w1.cell? ⟨g, 0, none⟩ = some (.int .i64 ty) := HX2.out.cell 0
  have x1 : w1.cell? ⟨g, 1, none⟩ = some (.int .i64 ma) := HX2.out.cell 1
  have x2 : w1.cell? ⟨g, 2, none⟩ = some (.int .u64 en) := HX2.out.cell 2
  have x3 : w1.cell? ⟨g, 3, none⟩ = some (.int .i64 fl) := HX2.out.cell 3
  have x4 : w1.cell? ⟨g, 4, none⟩ = some (.slice a n c) := HX2.out.cell 4
  have x5 : w1.cell? ⟨g, 5, none⟩ = some (.slice b k d) := HX2.out.cell 5
  have y0 : w1.cell? ⟨g + 1, 0, none⟩ = some (.int .i64 ty) := HX3.out.cell 0
  have y1 : w1.cell? ⟨g + 1, 1, none⟩ = some (.int .i64 ma) := HX3.out.cell 1
  have y2 : w1.cell? ⟨g + 1, 2, none⟩ = some (.int .u64 en) := HX3.out.cell 2
  have y3 : w1.cell? ⟨g + 1, 3, none⟩ = some (.int .i64 fl) := HX3.out.cell 3
  have y4 : w1.cell? ⟨g + 1, 4, none⟩ = some (.slice a2 n c2) := HX3.out.cell 4
  have y5 : w1.cell? ⟨g + 1, 5, none⟩ = some (.slice b2 k d2) := HX3.out.cell 5
  go_wp2
  clear x0 x1 x2 x3 x4 x5 y0 y1 y2 y3 y4 y5
  go_loopw [5] (fun vi wr => ∃ i : Nat, i ≤ n ∧ vi = .int .i64 i ∧ Bw w1 wr) (fun vi _ => n - (intOf vi).toNat)
  case atStart => exact ⟨0, Nat.zero_le _, rfl, Bw.refl _⟩
  case round =>
    rename World => wr
    obtain ⟨i, hi, rfl, hw⟩ := hrel
    have HK1 := hid hw
    have x4 : wr.cell? ⟨g, 4, none⟩ = some (.slice a n c) := (hw.has HX2.out).cell 4
    have y4 : wr.cell? ⟨g + 1, 4, none⟩ = some (.slice a2 n c2) := (hw.has HX3.out).cell 4
    by_cases hlt : i < n
    · have hk1 : (i : Int) < n := by omega
      obtain ⟨b1, o1, rfl, hb1, p0, p1, p2, p3, p4, p5, p6, p7, _⟩ := HA.out.bw (HW.out.trans hw) i (by rw [HN.out]; exact hlt)
      obtain ⟨b2, o2, rfl, hb2, q0, q1, q2, q3, q4, q5, q6, q7, _⟩ := HB.out.bw (HW.out.trans hw) i (by rw [HN.out]; exact hlt)
      clear hw
      have hkl : i < sg.length := by rw [HN.out]; exact hlt
      obtain ⟨x, hx⟩ : ∃ x, sg[i]'hkl = x := ⟨_, rfl⟩
      rw [hx] at p0 p1 p2 p3 p4 p5 p6 p7 q0 q1 q2 q3 q4 q5 q6 q7
      clear hx
      go_wp2_with fail
      go_quiet (fail)
      go_wp2
      exact ⟨⟨i + 1, by omega, by go_num, HK1.out.drewN _⟩, by simp [intOf]; omega⟩
    · obtain rfl : i = n := by omega
      have HW2 := hid (HW.out.trans hw)
      clear HA HB hw
      go_wp2
      go_loopw [6] (fun vi w2 => ∃ i : Nat, i ≤ k ∧ vi = .int .i64 i ∧ Bw wr w2) (fun vi _ => k - (intOf vi).toNat)
      case atStart => exact ⟨0, Nat.zero_le _, rfl, Bw.refl _⟩
      case round =>
        rename World => w2
        obtain ⟨j, hj, rfl, hw2⟩ := hrel
        have HK2 := hid hw2
        have x5 : w2.cell? ⟨g, 5, none⟩ = some (.slice b k d) := ((HK1.out.trans hw2).has HX2.out).cell 5
        have y5 : w2.cell? ⟨g + 1, 5, none⟩ = some (.slice b2 k d2) := ((HK1.out.trans hw2).has HX3.out).cell 5
        by_cases hlt2 : j < k
        · have hk1 : (j : Int) < k := by omega
          obtain ⟨b1, o1, rfl, hb1, p0, p1, p2, p3, p4, p5, p6, p7, p8, p9, _⟩ := HC.out.bw (HW2.out.trans hw2) j (by rw [HK.out]; exact hlt2)
          obtain ⟨b2, o2, rfl, hb2, q0, q1, q2, q3, q4, q5, q6, q7, q8, q9, _⟩ := HD.out.bw (HW2.out.trans hw2) j (by rw [HK.out]; exact hlt2)
          clear hw2
          have hkl : j < sc.length := by rw [HK.out]; exact hlt2
          obtain ⟨x, hx⟩ : ∃ x, sc[j]'hkl = x := ⟨_, rfl⟩
          rw [hx] at p0 p1 p2 p3 p4 p5 p6 p7 p8 p9 q0 q1 q2 q3 q4 q5 q6 q7 q8 q9
          clear hx
          go_wp2_with fail
          go_quiet (fail)
          go_wp2
          exact ⟨⟨j + 1, by omega, by go_num, HK2.out.drewN _⟩, by simp [intOf]; omega⟩
        · obtain rfl : j = k := by omega
          go_wp2
          go_returns
          exact ⟨rfl, HW2.out.trans hw2⟩
end Go.Proofs.Ytciaebhkemdilaa
/- small and Reach of models (contracts of the law's and the document's function). -/
namespace Go.Proofs.Ytciaebhkemdilaa
open Go.RowKit
set_option linter.unusedVariables false
set_option linter.unusedSimpArgs false
/-- A model that is not too much to be gone through. -/
structure SmallM (m : ElfR) : Prop where
  seg : m.segs.length ≤ 1001
  sec : m.secs.length ≤ 1001
  all : ∀ x ∈ m.secs, x.dat.size ≤ 5000 ∧ x.nam.size ≤ 1000
def SmaQ (m : ElfR) (w : World) (e : Ending) (w' : World) : Prop := ∃ b, e = .returned (.bool b) ∧ Bw w w' ∧ (b = true → SmallM m)
set_option maxRecDepth 100000 in
set_option maxHeartbeats 8000000 in
theorem small_any (m : ElfR) (a b : Option Addr) (n k c d : Nat) (hn : m.segs.length = n) (hk : m.secs.length = k) (hn9 : n ≤ 9223372036854775807) (hk9 : k ≤ 9223372036854775807) (w : World) (ha : ElfAt w m a b) :
    Calls Try.prog 13 #[.agg #[.int .i64 m.typ, .int .i64 m.mac, .int .u64 m.ent, .int .i64 m.flg, .slice a n c, .slice b k d]] w (SmaQ m w) := by
  have HQ := hid (fun e w' (v : Bool) (he : e = .returned (.bool v)) (hb : Bw w w') (h : v = true → SmallM m) => (show SmaQ m w e w' from ⟨v, he, hb, h⟩))
  have HM := hid (fun (h1 : n ≤ 1001) (h2 : k ≤ 1001) (h : ∀ x ∈ m.secs, x.dat.size ≤ 5000 ∧ x.nam.size ≤ 1000) => (show SmallM m from ⟨by omega, by omega, h⟩))
  obtain ⟨ty, ma, en, fl, sg, sc⟩ := m
  simp only at hn hk HM ⊢
  have HC := hid (show SecAt w b sc from ha.2)
  have HK := hid hk
  clear ha hn hk
  have HX2 := hid (Has.new w 27 #[.int .i64 ty, .int .i64 ma, .int .u64 en, .int .i64 fl, .slice a n c, .slice b k d])
  have HW := hid ((Bw.refl w).alloc (.cells #[.int .i64 ty, .int .i64 ma, .int .u64 en, .int .i64 fl, .slice a n c, .slice b k d] 27))
  obtain ⟨g, hg⟩ : ∃ g, w.heap.size = g := ⟨_, rfl⟩
  rw [hg] at HX2
  go_enter Try.func13, Try.ntmps13
  go_upto_region 1 with fail
  generalize w.alloc (.cells #[.int .i64 ty, .int .i64 ma, .int .u64 en, .int .i64 fl, .slice a n c, .slice b k d] 27) = w1 at *
  have x4 : w1.cell? ⟨g, 4, none⟩ = some (.slice a n c) := HX2.out.cell 4
  have x5 : w1.cell? ⟨g, 5, none⟩ = some (.slice b k d) := HX2.out.cell 5
  by_cases h1 : (1001 : Int) < n
  · go_wp2
    go_returns
    exact HQ.out _ _ false rfl HW.out (fun h => by cases h)
  by_cases h2 : (1001 : Int) < k
  · go_wp2
    go_returns
    exact HQ.out _ _ false rfl HW.out (fun h => by cases h)
  have hk1 : k ≤ 1001 := by omega
  have HM2 := hid (HM.out (by omega) (by omega))
  clear HM
  go_wp2
  clear x4 x5
  go_loopw [3, 4] (fun vn vi wr => ∃ i T : Nat, i ≤ k ∧ vn = .int .i64 T ∧ vi = .int .i64 i ∧ T ≤ i * 5000 ∧ Bw w1 wr ∧ Hid (∀ j (hj : j < sc.length), j < i → sc[j].dat.size ≤ 5000 ∧ sc[j].nam.size ≤ 1000)) (fun _ vi _ => k - (intOf vi).toNat)
  case atStart => exact ⟨0, 0, Nat.zero_le _, rfl, rfl, Nat.le_refl _, Bw.refl _, hid (fun j _ h => by omega)⟩
  case round =>
    rename World => wr
    obtain ⟨i, T, hi, rfl, rfl, hT, hw, hall⟩ := hrel
    have HK1 := hid hw
    have x5 : wr.cell? ⟨g, 5, none⟩ = some (.slice b k d) := (hw.has HX2.out).cell 5
    by_cases hlt : i < k
    · have hk2 : (i : Int) < k := by omega
      obtain ⟨b1, o1, rfl, hb1, p0, p1, p2, p3, p4, p5, p6, p7, p8, p9, _⟩ := HC.out.bw (HW.out.trans hw) i (by rw [HK.out]; exact hlt)
      clear hw p1 p2 p3 p5 p6 p7 p8 p9
      have hkl : i < sc.length := by rw [HK.out]; exact hlt
      obtain ⟨x, hx⟩ : ∃ x, sc[i]'hkl = x := ⟨_, rfl⟩
      have HXX := hid hx
      rw [hx] at p0 p4
      clear hx
      by_cases q1 : (5000 : Int) < x.dat.size
      · go_wp2
        go_returns
        exact HQ.out _ _ false rfl (HW.out.trans HK1.out) (fun h => by cases h)
      by_cases q2 : (1000 : Int) < x.nam.size
      · go_wp2
        go_returns
        exact HQ.out _ _ false rfl (HW.out.trans HK1.out) (fun h => by cases h)
      by_cases q3 : (100000 : Int) < T
      · go_wp2
        go_returns
        exact HQ.out _ _ false rfl (HW.out.trans HK1.out) (fun h => by cases h)
      have v1 : IntKind.i64.wrap ((T : Int) + x.dat.size) = ((T + x.dat.size : Nat) : Int) := by rw [IntWalk.i64_in _ (by omega)]; omega
      go_wp2
      refine ⟨⟨i + 1, T + x.dat.size, by omega, by go_num, by go_num, by omega, HK1.out, hid (fun j hj h => ?_)⟩, by simp [intOf]; omega⟩
      by_cases e : j = i
      · subst e
        rw [HXX.out]
        omega
      · exact hall.out j hj (by omega)
    · obtain rfl : i = k := by omega
      go_wp2
      go_returns
      refine HQ.out _ _ true rfl (HW.out.trans hw) (fun _ => HM2.out fun x hx => ?_)
      obtain ⟨j, hj, rfl⟩ := List.mem_iff_getElem.1 hx
      exact hall.out j hj (by rw [← HK.out]; exact hj)
/-- How far segments reach. -/
def reachF : List SegR → Int → Int
  | [], n => n
  | x :: r, n => reachF r (max n (x.off + x.fsz))
theorem reachF_le (l : List SegR) (n S : Int) : reachF l n ≤ S ↔ n ≤ S ∧ ∀ x ∈ l, x.off + x.fsz ≤ S := by
  induction l generalizing n with
  | nil => simp [reachF]
  | cons x r ih =>
    rw [reachF, ih]
    constructor
    · rintro ⟨h1, h2⟩
      exact ⟨by omega, fun y hy => by rcases List.mem_cons.1 hy with rfl | hy; omega; exact h2 y hy⟩
    · rintro ⟨h1, h2⟩
      refine ⟨?_, fun y hy => h2 y (List.mem_cons_of_mem _ hy)⟩
      have := h2 x List.mem_cons_self
      omega
theorem reachF_app (l : List SegR) (x : SegR) (n : Int) : reachF (l ++ [x]) n = max (reachF l n) (x.off + x.fsz) := by
  induction l generalizing n with
  | nil => rfl
  | cons y r ih => rw [List.cons_append, reachF, reachF, ih]
set_option maxRecDepth 100000 in
set_option maxHeartbeats 8000000 in
theorem reach_any (m : ElfR) (a b : Option Addr) (n k c d : Nat) (hn : m.segs.length = n) (hk : m.secs.length = k) (hn9 : n ≤ 1001) (hsg : ∀ x ∈ m.segs, (0 ≤ x.off ∧ x.off ≤ 1099511627776) ∧ (0 ≤ x.fsz ∧ x.fsz ≤ 1099511627776)) (w : World) (ha : ElfAt w m a b) :
    Calls Try.prog 17 #[.agg #[.int .i64 m.typ, .int .i64 m.mac, .int .u64 m.ent, .int .i64 m.flg, .slice a n c, .slice b k d]] w fun e w' => e = .returned (.int .i64 (reachF m.segs 0)) ∧ Bw w w' := by
  obtain ⟨ty, ma, en, fl, sg, sc⟩ := m
  simp only at hn hk hsg ⊢
  have HC := hid (show SegAt w a sg from ha.1)
  have HK := hid hn
  have HSG := hid hsg
  clear ha hn hk hsg
  have HX2 := hid (Has.new w 27 #[.int .i64 ty, .int .i64 ma, .int .u64 en, .int .i64 fl, .slice a n c, .slice b k d])
  have HW := hid ((Bw.refl w).alloc (.cells #[.int .i64 ty, .int .i64 ma, .int .u64 en, .int .i64 fl, .slice a n c, .slice b k d] 27))
  obtain ⟨g, hg⟩ : ∃ g, w.heap.size = g := ⟨_, rfl⟩
  rw [hg] at HX2
  obtain ⟨R, hR⟩ : ∃ R, reachF sg 0 = R := ⟨_, rfl⟩
  have HR := hid hR
  rw [hR]
  clear hR
  go_enter Try.func17, Try.ntmps17
  go_upto_region 1 with fail
  generalize w.alloc (.cells #[.int .i64 ty, .int .i64 ma, .int .u64 en, .int .i64 fl, .slice a n c, .slice b k d] 27) = w1 at *
  go_wp2
  go_loopw [3, 4] (fun vn vi wr => ∃ (i : Nat) (T : Int), i ≤ n ∧ vn = .int .i64 T ∧ vi = .int .i64 i ∧ Hid (T = reachF (sg.take i) 0) ∧ Bw w1 wr) (fun _ vi _ => n - (intOf vi).toNat)
  case atStart => exact ⟨0, 0, Nat.zero_le _, rfl, rfl, hid rfl, Bw.refl _⟩
  case round =>
    rename World => wr
    obtain ⟨i, T, hi, rfl, rfl, HT, hw⟩ := hrel
    have HK1 := hid hw
    have x4 : wr.cell? ⟨g, 4, none⟩ = some (.slice a n c) := (hw.has HX2.out).cell 4
    by_cases hlt : i < n
    · have hk2 : (i : Int) < n := by omega
      obtain ⟨b1, o1, rfl, hb1, p0, p1, p2, p3, p4, p5, p6, p7, _⟩ := HC.out.bw (HW.out.trans hw) i (by rw [HK.out]; exact hlt)
      clear hw p0 p1 p3 p4 p6 p7
      have hkl : i < sg.length := by rw [HK.out]; exact hlt
      obtain ⟨x, hx⟩ : ∃ x, sg[i]'hkl = x := ⟨_, rfl⟩
      have HXX := hid hx
      rw [hx] at p2 p5
      obtain ⟨⟨u0, u1⟩, u2, u3⟩ := HSG.out x (by rw [← hx]; exact List.getElem_mem _)
      clear hx
      have v1 : IntKind.i64.wrap (x.off + x.fsz) = x.off + x.fsz := IntWalk.i64_in _ (by omega)
      have HTN := hid (show max T (x.off + x.fsz) = reachF (sg.take (i + 1)) 0 by
        rw [List.take_succ_eq_append_getElem hkl, reachF_app, ← HT.out, HXX.out])
      go_wp2_with fail
      go_region
      all_goals go_wp2
      all_goals exact ⟨⟨i + 1, _, by omega, rfl, by go_num, HTN, HK1.out.drewN _⟩, by simp [intOf]; omega⟩
    · obtain rfl : i = n := by omega
      have HE := hid (show T = R by rw [HT.out, ← HR.out, List.take_of_length_le (by rw [HK.out]; exact Nat.le_refl _)])
      go_wp2
      go_returns
      exact ⟨by rw [HE.out]; rfl, HW.out.trans hw⟩
end Go.Proofs.Ytciaebhkemdilaa
/- live of elf's laws (contract of the function). -/
namespace Go.Proofs.Ytciaebhkemdilaa
open Go.RowKit
set_option linter.unusedVariables false
set_option linter.unusedSimpArgs false
def s0 : SecR := ⟨⟨#[46, 116, 101, 120, 116]⟩, 1, 0, 0, ⟨#[97, 98, 99]⟩, 0, 0, 0, 0, 0⟩
def s1 : SecR := ⟨⟨#[46, 98, 115, 115]⟩, 8, 0, 0, ⟨#[]⟩, 5, 0, 0, 0, 0⟩
def m0 : ElfR := ⟨2, 62, 4096, 0, [], [s0, s1]⟩
theorem s0_ok : s0.Ok := by unfold SecR.Ok s0; decide
theorem s1_ok : s1.Ok := by unfold SecR.Ok s1; decide
theorem m0_valid : validB m0 = true := by decide +kernel
theorem zero_valid : validB zeroM = true := by decide +kernel
theorem m0_end : endG (allP m0.secs) (wP m0) ≤ 80000000 := by decide +kernel
theorem m0_nms : (nmsT m0.secs).size ≤ 80000000 := by decide +kernel
theorem zero_end : al8 (endG (allP zeroM.secs) (wP zeroM)) = 80 := by decide +kernel
theorem m0_secs (x : SecR) (hx : x ∈ m0.secs) : x.Ok := by
  rcases List.mem_cons.1 hx with rfl | hx
  · exact s0_ok
  · rw [List.mem_singleton.1 hx]; exact s1_ok
theorem m0_wr : Wr m0 := ⟨m0_valid, m0_secs, fun x hx => (by cases hx), by decide, m0_end, m0_nms⟩
theorem zero_wr : Wr zeroM := ⟨zero_valid, fun x hx => (by cases hx), fun x hx => (by cases hx), by decide, by decide +kernel, by decide +kernel⟩
theorem seg_nil (w : World) (a : Option Addr) : SegAt w a [] := fun i hi => absurd hi (Nat.not_lt_zero i)
theorem sec_nil (w : World) (a : Option Addr) : SecAt w a [] := fun i hi => absurd hi (Nat.not_lt_zero i)
theorem sec_two {w : World} {g : Nat} (h : Has w g 43 #[.string ⟨#[46, 116, 101, 120, 116]⟩, .int .i64 1, .int .u64 0, .int .u64 0, .string ⟨#[97, 98, 99]⟩, .int .i64 0, .int .i64 0, .int .i64 0, .int .u64 0, .int .u64 0, .string ⟨#[46, 98, 115, 115]⟩, .int .i64 8, .int .u64 0, .int .u64 0, .string ⟨#[]⟩, .int .i64 5, .int .i64 0, .int .i64 0, .int .u64 0, .int .u64 0]) : SecAt w (some ⟨g, 0, none⟩) [s0, s1] := by
  intro i hi
  match i, hi with
  | 0, hi => exact ⟨g, 0, rfl, h.lt, h.cell 0, h.cell 1, h.cell 2, h.cell 3, h.cell 4, h.cell 5, h.cell 6, h.cell 7, h.cell 8, h.cell 9, s0_ok⟩
  | 1, hi => exact ⟨g, 0, rfl, h.lt, h.cell 10, h.cell 11, h.cell 12, h.cell 13, h.cell 14, h.cell 15, h.cell 16, h.cell 17, h.cell 18, h.cell 19, s1_ok⟩
set_option maxRecDepth 100000 in
set_option maxHeartbeats 8000000 in
theorem live_any (w : World) :
    Calls Try.prog 9 #[] w fun e w' => e = .returned (.bool true) ∧ Bw w w' := by
  obtain ⟨T, hT⟩ : ∃ T, writeT m0 = T := ⟨_, rfl⟩
  obtain ⟨U, hU⟩ : ∃ U, writeT zeroM = U := ⟨_, rfl⟩
  have hzT : T.size ≤ 100000000 := by
    have := writeT_size m0
    have h := m0_end
    have h2 := al8_lt (endG (allP m0.secs) (wP m0))
    have h3 : m0.secs.length = 2 := rfl
    rw [← hT]; omega
  have HUZ := hid (show (U.size : Int) = 208 by
    have := writeT_size zeroM
    rw [zero_end] at this
    rw [← hU, this]
    rfl)
  have HRM := hid (show readE T = 0 ∧ readM T = m0 by rw [← hT]; exact m0_wr.back (fun x hx => by cases hx))
  have HR0 := hid (show readE ⟨#[]⟩ = 2 ∧ readM ⟨#[]⟩ = zeroM by
    have e : readE ⟨#[]⟩ = 2 := by rw [read_hd (by rw [hd_cut (by decide)]; decide), hd_cut (by decide)]
    exact ⟨e, readM_bad (by rw [e]; decide)⟩)
  have HWR := hid (fun W g (h : SecAt W (some ⟨g, 0, none⟩) [s0, s1]) => (show Calls Try.prog 15 #[.agg #[.int .i64 2, .int .i64 62, .int .u64 4096, .int .i64 0, .slice none 0 0, .slice (some ⟨g, 0, none⟩) 2 2]] W fun e w' => e = .returned (.tuple #[.string T, .int .i64 0]) ∧ Bw W w' from
    (ewrite_any m0 none (some ⟨g, 0, none⟩) 0 0 2 2 rfl rfl (by decide) (by decide) ⟨m0_end, m0_nms⟩ W (by decide) (fun _ => m0_wr.row) (seg_nil W _) h).mono fun e w' hq => by
      obtain ⟨hb, h | h⟩ := hq
      · exact ⟨by rw [h.2, hT], hb⟩
      · rw [m0_valid] at h; cases h.1))
  have HWZ := hid (fun W => (show Calls Try.prog 15 #[.agg #[.int .i64 0, .int .i64 0, .int .u64 0, .int .i64 0, .slice none 0 0, .slice none 0 0]] W fun e w' => e = .returned (.tuple #[.string U, .int .i64 0]) ∧ Bw W w' from
    (ewrite_any zeroM none none 0 0 0 0 rfl rfl (by decide) (by decide) ⟨zero_wr.few, zero_wr.nms⟩ W (by decide) (fun _ => zero_wr.row) (seg_nil W _) (sec_nil W _)).mono fun e w' hq => by
      obtain ⟨hb, h | h⟩ := hq
      · exact ⟨by rw [h.2, hU], hb⟩
      · rw [zero_valid] at h; cases h.1))
  have HRD := hid (fun W => (show Calls Try.prog 10 #[.string T] W fun e w' => ∃ a c b d, e = .returned (.tuple #[.agg #[.int .i64 2, .int .i64 62, .int .u64 4096, .int .i64 0, .slice a 0 c, .slice b 2 d], .int .i64 0]) ∧ Bw W w' ∧ SecAt w' b [s0, s1] from
    (read_any T hzT W).mono fun e w' hq => by
      obtain ⟨hb, a, c, b, d, he, ho⟩ := hq
      rw [HRM.out.1, HRM.out.2] at he
      rw [HRM.out.2] at ho
      exact ⟨a, c, b, d, he, hb, ho.at.2⟩))
  have HRZ := hid (fun W => (show Calls Try.prog 10 #[.string ⟨#[]⟩] W fun e w' => ∃ a c b d, e = .returned (.tuple #[.agg #[.int .i64 0, .int .i64 0, .int .u64 0, .int .i64 0, .slice a 0 c, .slice b 0 d], .int .i64 2]) ∧ Bw W w' from
    (read_any ⟨#[]⟩ (by decide) W).mono fun e w' hq => by
      obtain ⟨hb, a, c, b, d, he, ho⟩ := hq
      rw [HR0.out.1, HR0.out.2] at he
      exact ⟨a, c, b, d, he, hb⟩))
  have HSA := hid (fun W g a c b d (h1 : SecAt W (some ⟨g, 0, none⟩) [s0, s1]) (h2 : SecAt W b [s0, s1]) => (show Calls Try.prog 12 #[.agg #[.int .i64 2, .int .i64 62, .int .u64 4096, .int .i64 0, .slice none 0 0, .slice (some ⟨g, 0, none⟩) 2 2], .agg #[.int .i64 2, .int .i64 62, .int .u64 4096, .int .i64 0, .slice a 0 c, .slice b 2 d]] W fun e w' => e = .returned (.bool true) ∧ Bw W w' from
    sameM_eq m0 none (some ⟨g, 0, none⟩) a b 0 2 0 2 c d rfl rfl (by decide) (by decide) W ⟨seg_nil W _, h1⟩ ⟨seg_nil W _, h2⟩))
  clear hT hU hzT
  go_enter Try.func9, Try.ntmps9
  have HS1 := hid (Has.new w 43 #[.string ⟨#[46, 116, 101, 120, 116]⟩, .int .i64 1, .int .u64 0, .int .u64 0, .string ⟨#[97, 98, 99]⟩, .int .i64 0, .int .i64 0, .int .i64 0, .int .u64 0, .int .u64 0, .string ⟨#[46, 98, 115, 115]⟩, .int .i64 8, .int .u64 0, .int .u64 0, .string ⟨#[]⟩, .int .i64 5, .int .i64 0, .int .i64 0, .int .u64 0, .int .u64 0])
  obtain ⟨g, hg⟩ : ∃ g, w.heap.size = g := ⟨_, rfl⟩
  have HG := hid hg
  rw [hg] at HS1
  have HS2 := hid (HS1.out.alloc (.cells #[.int .i64 2, .int .i64 62, .int .u64 4096, .int .i64 0, .slice none 0 0, .slice (some ⟨g, 0, none⟩) 2 2] 27))
  have HM2 := hid (Has.new (w.alloc (.cells #[.string ⟨#[46, 116, 101, 120, 116]⟩, .int .i64 1, .int .u64 0, .int .u64 0, .string ⟨#[97, 98, 99]⟩, .int .i64 0, .int .i64 0, .int .i64 0, .int .u64 0, .int .u64 0, .string ⟨#[46, 98, 115, 115]⟩, .int .i64 8, .int .u64 0, .int .u64 0, .string ⟨#[]⟩, .int .i64 5, .int .i64 0, .int .i64 0, .int .u64 0, .int .u64 0] 43)) 27 #[.int .i64 2, .int .i64 62, .int .u64 4096, .int .i64 0, .slice none 0 0, .slice (some ⟨g, 0, none⟩) 2 2])
  have HB2 := hid (((Bw.refl w).alloc (.cells #[.string ⟨#[46, 116, 101, 120, 116]⟩, .int .i64 1, .int .u64 0, .int .u64 0, .string ⟨#[97, 98, 99]⟩, .int .i64 0, .int .i64 0, .int .i64 0, .int .u64 0, .int .u64 0, .string ⟨#[46, 98, 115, 115]⟩, .int .i64 8, .int .u64 0, .int .u64 0, .string ⟨#[]⟩, .int .i64 5, .int .i64 0, .int .i64 0, .int .u64 0, .int .u64 0] 43)).alloc (.cells #[.int .i64 2, .int .i64 62, .int .u64 4096, .int .i64 0, .slice none 0 0, .slice (some ⟨g, 0, none⟩) 2 2] 27))
  rw [World.size_alloc, hg] at HM2
  go_upto_region 2 with fail
  generalize (w.alloc (.cells #[.string ⟨#[46, 116, 101, 120, 116]⟩, .int .i64 1, .int .u64 0, .int .u64 0, .string ⟨#[97, 98, 99]⟩, .int .i64 0, .int .i64 0, .int .i64 0, .int .u64 0, .int .u64 0, .string ⟨#[46, 98, 115, 115]⟩, .int .i64 8, .int .u64 0, .int .u64 0, .string ⟨#[]⟩, .int .i64 5, .int .i64 0, .int .i64 0, .int .u64 0, .int .u64 0] 43)).alloc (.cells #[.int .i64 2, .int .i64 62, .int .u64 4096, .int .i64 0, .slice none 0 0, .slice (some ⟨g, 0, none⟩) 2 2] 27) = w2 at *
  clear HS1 hg
  refine wp_region_list ?_
  refine wpList_load_mid rfl 27 (.tmp 1) rfl (g + 1) 0 rfl [.int .i64 2, .int .i64 62, .int .u64 4096, .int .i64 0, .slice none 0 0, .slice (some ⟨g, 0, none⟩) 2 2] _ HM2.out.range Try.underlying27 rfl inf_ElfW ?_
  go_wp2_with fail
  refine (HWR.out _ g (sec_two HS2.out)).mono ?_
  rintro e w3 ⟨rfl, hb3⟩
  have HB3 := hid (HB2.out.trans hb3)
  have HS3 := hid (hb3.has HS2.out)
  have HM3 := hid (hb3.has HM2.out)
  clear hb3 HB2 HS2 HM2 HWR
  go_wp2_with fail
  refine (HRD.out _).mono ?_
  rintro e w4 ⟨a, c, b, d, rfl, hb4, hs4⟩
  have HB4 := hid ((HB3.out.trans hb4).alloc (.cells #[.int .i64 2, .int .i64 62, .int .u64 4096, .int .i64 0, .slice a 0 c, .slice b 2 d] 27))
  have HS4 := hid ((hb4.has HS3.out).alloc (.cells #[.int .i64 2, .int .i64 62, .int .u64 4096, .int .i64 0, .slice a 0 c, .slice b 2 d] 27))
  have HM4 := hid ((hb4.has HM3.out).alloc (.cells #[.int .i64 2, .int .i64 62, .int .u64 4096, .int .i64 0, .slice a 0 c, .slice b 2 d] 27))
  have HN4 := hid (Has.new w4 27 #[.int .i64 2, .int .i64 62, .int .u64 4096, .int .i64 0, .slice a 0 c, .slice b 2 d])
  have HQ4 := hid (hs4.bw ((Bw.refl w4).alloc (.cells #[.int .i64 2, .int .i64 62, .int .u64 4096, .int .i64 0, .slice a 0 c, .slice b 2 d] 27)))
  obtain ⟨nb, hnb⟩ : ∃ nb, w4.heap.size = nb := ⟨_, rfl⟩
  rw [hnb] at HN4
  clear hb4 hs4 HB3 HS3 HM3 HRD
  go_upto_region 4 with fail
  generalize w4.alloc (.cells #[.int .i64 2, .int .i64 62, .int .u64 4096, .int .i64 0, .slice a 0 c, .slice b 2 d] 27) = w5 at *
  clear hnb
  go_wp2_with fail
  refine (HWZ.out _).mono ?_
  rintro e w6 ⟨rfl, hb6⟩
  have HB6 := hid (HB4.out.trans hb6)
  have HS6 := hid (hb6.has HS4.out)
  have HM6 := hid (hb6.has HM4.out)
  have HN6 := hid (hb6.has HN4.out)
  have HQ6 := hid (HQ4.out.bw hb6)
  clear hb6 HB4 HS4 HM4 HN4 HQ4 HWZ
  go_wp2_with fail
  refine (HRZ.out _).mono ?_
  rintro e w7 ⟨a2, c2, b2, d2, rfl, hb7⟩
  have HB7 := hid ((HB6.out.trans hb7).alloc (.cells #[.int .i64 0, .int .i64 0, .int .u64 0, .int .i64 0, .slice a2 0 c2, .slice b2 0 d2] 27))
  have HS7 := hid ((hb7.has HS6.out).alloc (.cells #[.int .i64 0, .int .i64 0, .int .u64 0, .int .i64 0, .slice a2 0 c2, .slice b2 0 d2] 27))
  have HM7 := hid ((hb7.has HM6.out).alloc (.cells #[.int .i64 0, .int .i64 0, .int .u64 0, .int .i64 0, .slice a2 0 c2, .slice b2 0 d2] 27))
  have HN7 := hid ((hb7.has HN6.out).alloc (.cells #[.int .i64 0, .int .i64 0, .int .u64 0, .int .i64 0, .slice a2 0 c2, .slice b2 0 d2] 27))
  have HQ7 := hid ((HQ6.out.bw hb7).bw ((Bw.refl w7).alloc (.cells #[.int .i64 0, .int .i64 0, .int .u64 0, .int .i64 0, .slice a2 0 c2, .slice b2 0 d2] 27)))
  clear hb7 HB6 HS6 HM6 HN6 HQ6 HRZ
  go_upto_region 6 with fail
  generalize w7.alloc (.cells #[.int .i64 0, .int .i64 0, .int .u64 0, .int .i64 0, .slice a2 0 c2, .slice b2 0 d2] 27) = w8 at *
  have m0 : w8.cell? ⟨g + 1, 0, none⟩ = some (.int .i64 2) := HM7.out.cell 0
  have m1 : w8.cell? ⟨g + 1, 1, none⟩ = some (.int .i64 62) := HM7.out.cell 1
  have m2 : w8.cell? ⟨g + 1, 2, none⟩ = some (.int .u64 4096) := HM7.out.cell 2
  have m3 : w8.cell? ⟨g + 1, 3, none⟩ = some (.int .i64 0) := HM7.out.cell 3
  have m4 : w8.cell? ⟨g + 1, 4, none⟩ = some (.slice none 0 0) := HM7.out.cell 4
  have m5 : w8.cell? ⟨g + 1, 5, none⟩ = some (.slice (some ⟨g, 0, none⟩) 2 2) := HM7.out.cell 5
  have n0 : w8.cell? ⟨nb, 0, none⟩ = some (.int .i64 2) := HN7.out.cell 0
  have n1 : w8.cell? ⟨nb, 1, none⟩ = some (.int .i64 62) := HN7.out.cell 1
  have n2 : w8.cell? ⟨nb, 2, none⟩ = some (.int .u64 4096) := HN7.out.cell 2
  have n3 : w8.cell? ⟨nb, 3, none⟩ = some (.int .i64 0) := HN7.out.cell 3
  have n4 : w8.cell? ⟨nb, 4, none⟩ = some (.slice a 0 c) := HN7.out.cell 4
  have n5 : w8.cell? ⟨nb, 5, none⟩ = some (.slice b 2 d) := HN7.out.cell 5
  go_wp2_with fail
  refine (HSA.out _ g a c b d (sec_two HS7.out) HQ7.out).mono ?_
  rintro e w9 ⟨rfl, hb9⟩
  have HB9 := hid (HB7.out.trans hb9)
  have hz := HUZ.out
  clear m0 m1 m2 m3 m4 m5 n0 n1 n2 n3 n4 n5 hb9 HB7
  go_wp2
  go_returns
  exact ⟨rfl, HB9.out⟩
end Go.Proofs.Ytciaebhkemdilaa
/- What elf's laws need of small models: how long their files are; Write of one that came in. -/
namespace Go.Proofs.Ytciaebhkemdilaa
open Go.RowKit
set_option linter.unusedVariables false
theorem list6 {a b c d e f : Value} {cs : List Value} (h : cs.length = 6) (h0 : cs[0]? = some a) (h1 : cs[1]? = some b) (h2 : cs[2]? = some c) (h3 : cs[3]? = some d) (h4 : cs[4]? = some e) (h5 : cs[5]? = some f) : cs = [a, b, c, d, e, f] := by
  match cs, h with
  | [x0, x1, x2, x3, x4, x5], _ => simp_all
theorem endG_bound {M : Nat} {L : List (SecR × Nat)} (h : ∀ y ∈ L, y.1.dat.size ≤ M) (p : Nat) : endG L p ≤ p + L.length * (M + 8) := by
  induction L generalizing p with
  | nil => rw [endG]; omega
  | cons x r ih =>
    have hx := h x List.mem_cons_self
    have hr := fun q => ih (fun y hy => h y (List.mem_cons_of_mem _ hy)) q
    rw [endG, List.length_cons, Nat.succ_mul]
    split
    · have := hr p; omega
    · have := hr (al8 p + x.1.dat.size)
      have := al8_lt p
      omega
theorem nms_bound {l : List SecR} (h : ∀ x ∈ l, x.nam.size ≤ 1000) : (nmsT l).size ≤ l.length * 1001 := by
  induction l with
  | nil => exact Nat.zero_le _
  | cons x r ih =>
    have hx := h x List.mem_cons_self
    have hr := ih (fun y hy => h y (List.mem_cons_of_mem _ hy))
    rw [nmsT, ByteArray.size_append, ByteArray.size_append, one_size, List.length_cons, Nat.succ_mul]
    omega
theorem small_nms {m : ElfR} (h : SmallM m) : (nmsT m.secs).size ≤ 1002001 := by
  have h1 := nms_bound (l := m.secs) (fun x hx => (h.all x hx).2)
  have h2 := h.sec
  have h3 : m.secs.length * 1001 ≤ 1001 * 1001 := Nat.mul_le_mul_right _ h2
  omega
theorem small_end {m : ElfR} (h : SmallM m) : endG (allP m.secs) (wP m) ≤ 7000000 := by
  have hn := small_nms h
  have h1 := h.seg
  have h2 := h.sec
  have e : allP m.secs = allG (nulS :: m.secs) 0 ++ allG [shS (namesT m.secs)] (0 + (nmsT (nulS :: m.secs)).size) := by
    unfold allP allL
    rw [← List.cons_append, allG_app]
  have hA : endG (allG (nulS :: m.secs) 0) (wP m) ≤ wP m + (m.secs.length + 1) * 5008 := by
    have k := endG_bound (M := 5000) (L := allG (nulS :: m.secs) 0) (fun y hy => by
      have hm := (all_mem _ _ y hy).1
      rcases List.mem_cons.1 hm with e | hm
      · rw [e]; exact Nat.zero_le _
      · exact (h.all _ hm).1) (wP m)
    rw [allG_len, List.length_cons] at k
    exact k
  have hs : (namesT m.secs).size ≤ 1 + (nmsT m.secs).size + 10 := Nat.le_of_eq (names_size m.secs ⟨#[]⟩)
  have hB := endG_bound (M := 1002012) (L := allG [shS (namesT m.secs)] (0 + (nmsT (nulS :: m.secs)).size)) (fun y hy => by
    have hm := (all_mem _ _ y hy).1
    rw [List.mem_singleton.1 hm]
    show (namesT m.secs).size ≤ 1002012
    omega) (endG (allG (nulS :: m.secs) 0) (wP m))
  rw [allG_len, List.length_singleton] at hB
  rw [e, endG_app]
  have hw : wP m = 64 + 56 * m.segs.length := rfl
  have h3 : (m.secs.length + 1) * 5008 ≤ 1002 * 5008 := Nat.mul_le_mul_right _ (by omega)
  omega
/-- A model that came in. -/
structure InM (w : World) (m : ElfR) (a b : Option Addr) (n k : Nat) : Prop where
  hn : m.segs.length = n
  hk : m.secs.length = k
  ent : m.ent < 18446744073709551616
  at_ : ElfAt w m a b
  seg : ∀ x ∈ m.segs, x.Ok
  sec : ∀ x ∈ m.secs, x.Ok
theorem InM.bw {w w' : World} {m : ElfR} {a b : Option Addr} {n k : Nat} (h : InM w m a b n k) (hb : Bw w w') : InM w' m a b n k := ⟨h.hn, h.hk, h.ent, h.at_.bw hb, h.seg, h.sec⟩
theorem InM.mk' {w : World} {m : ElfR} {a b : Option Addr} {n k : Nat} (hn : m.segs.length = n) (hk : m.secs.length = k) (he : m.ent < 18446744073709551616) (h1 : SegAt w a m.segs) (h2 : SecAt w b m.secs) : InM w m a b n k :=
  ⟨hn, hk, he, ⟨h1, h2⟩, fun x hx => by
    obtain ⟨j, hj, rfl⟩ := List.mem_iff_getElem.1 hx
    obtain ⟨_, _, _, _, _, _, _, _, _, _, _, _, h⟩ := h1 j hj
    exact h, fun x hx => by
    obtain ⟨j, hj, rfl⟩ := List.mem_iff_getElem.1 hx
    obtain ⟨_, _, _, _, _, _, _, _, _, _, _, _, _, _, h⟩ := h2 j hj
    exact h⟩
theorem small_wr {w : World} {m : ElfR} {a b : Option Addr} {n k : Nat} (h : InM w m a b n k) (hs : SmallM m) (hv : validB m = true) : Wr m :=
  ⟨hv, h.sec, h.seg, h.ent, by have := small_end hs; omega, by have := small_nms hs; omega⟩
theorem small_size {m : ElfR} (h : SmallM m) : (writeT m).size ≤ 8000000 := by
  have h1 := writeT_size m
  have h2 := al8_lt (endG (allP m.secs) (wP m))
  have h3 := small_end h
  have h4 := h.sec
  omega
/-- Write of a small model that came in. -/
theorem write_in {w : World} {m : ElfR} {a b : Option Addr} {n k c d : Nat} (h : InM w m a b n k) (hs : SmallM m) :
    Calls Try.prog 15 #[.agg #[.int .i64 m.typ, .int .i64 m.mac, .int .u64 m.ent, .int .i64 m.flg, .slice a n c, .slice b k d]] w (WriteQ m w) := by
  have h1 := hs.seg
  have h2 := hs.sec
  have h3 := h.hn
  have h4 := h.hk
  exact ewrite_any m a b n c k d h.hn h.hk (by omega) (by omega) ⟨by have := small_end hs; omega, by have := small_nms hs; omega⟩ w h.ent (fun hv => (small_wr h hs hv).row) h.at_.1 h.at_.2
/-- Read, its answer taken apart. -/
theorem read_in (s : ByteArray) (hs : s.size ≤ 100000000) (M : ElfR) (E : Int) (hM : readM s = M) (hE : readE s = E) (n k : Nat) (hn : M.segs.length = n) (hk : M.secs.length = k) (w : World) :
    Calls Try.prog 10 #[.string s] w fun e w' => ∃ a c b d, e = .returned (.tuple #[.agg #[.int .i64 M.typ, .int .i64 M.mac, .int .u64 M.ent, .int .i64 M.flg, .slice a n c, .slice b k d], .int .i64 E]) ∧ Bw w w' ∧ ElfAt w' M a b :=
  (read_any s hs w).mono fun e w' hq => by
    obtain ⟨hb, a, c, b, d, he, ho⟩ := hq
    rw [hM] at he ho
    rw [hE] at he
    unfold elfV at he
    rw [hn, hk] at he
    exact ⟨a, c, b, d, he, hb, ho.at⟩
theorem readM_few {s : ByteArray} : (readM s).segs.length ≤ 1000 ∧ (readM s).secs.length ≤ 1000 := by
  by_cases h : readE s = 0
  · rw [readM_ok h]
    obtain ⟨h1, -⟩ := read_is0 h
    obtain ⟨-, hh⟩ := hd_is h1
    have a := hh.few
    have b := hh.seg
    unfold modelP segL secL
    simp only [List.length_map, List.length_range]
    unfold Go.Proofs.Ytciaebhkemdilaa.nSeg Go.Proofs.Ytciaebhkemdilaa.nSec
    omega
  · rw [readM_bad h]
    exact ⟨Nat.zero_le _, Nat.zero_le _⟩
theorem seven {w : World} {g : Nat} {v0 v1 v2 v3 v4 v5 : Value} (h : Has w g 27 #[v0, v1, v2, v3, v4, v5]) : w.cell? ⟨g, 0, none⟩ = some v0 ∧ w.cell? ⟨g, 1, none⟩ = some v1 ∧ w.cell? ⟨g, 2, none⟩ = some v2 ∧ w.cell? ⟨g, 3, none⟩ = some v3 ∧ w.cell? ⟨g, 4, none⟩ = some v4 ∧ w.cell? ⟨g, 5, none⟩ = some v5 :=
  ⟨h.cell 0, h.cell 1, h.cell 2, h.cell 3, h.cell 4, h.cell 5⟩
end Go.Proofs.Ytciaebhkemdilaa

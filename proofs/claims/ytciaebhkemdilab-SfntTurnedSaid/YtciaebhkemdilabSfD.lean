/- sfnt's reader: windows, entries (contracts of the functions). -/
import Derived.Test.YtciaebhkemdilabSfAB
import Derived.Test.YtciaebhkemdilabWinZ
import Derived.Deep.RegionHeld3
import Derived.Deep.DeepCutAuto
namespace Go.Proofs.Ytciaebhkemdilab
open Go.RowKit
set_option linter.unusedVariables false
set_option linter.unusedSimpArgs false
def put4 (w : World) (g : Nat) (a b c d : Value) : World := (((w.setCell ⟨g, 0, none⟩ a).setCell ⟨g, 1, none⟩ b).setCell ⟨g, 2, none⟩ c).setCell ⟨g, 3, none⟩ d
theorem put4_far {w : World} {g h : Nat} {t : TypeId} {cs : Array Value} (k : Has w h t cs) (hn : h ≠ g) (a b c d : Value) : Has (put4 w g a b c d) h t cs := (((k.far (p := ⟨g, 0, none⟩) hn a).far (p := ⟨g, 1, none⟩) hn b).far (p := ⟨g, 2, none⟩) hn c).far (p := ⟨g, 3, none⟩) hn d
theorem put4_has {w : World} {g : Nat} {t : TypeId} {x0 x1 x2 x3 : Value} (k : Has w g t #[x0, x1, x2, x3]) (a b c d : Value) : Has (put4 w g a b c d) g t #[a, b, c, d] := (((k.put 0 a).put 1 b).put 2 c).put 3 d
theorem put4_bw {w w1 : World} {g : Nat} (h : Bw w w1) (hg : w.heap.size ≤ g) (a b c d : Value) : Bw w (put4 w1 g a b c d) := Below.setCell (p := ⟨g, 3, none⟩) (Below.setCell (p := ⟨g, 2, none⟩) (Below.setCell (p := ⟨g, 1, none⟩) (Below.setCell (p := ⟨g, 0, none⟩) h hg a) hg b) hg c) hg d
theorem sub_in (b : Nat) (hb : b ≤ 281474976710656) (s : ByteArray) (hs : s.size ≤ lim) (p k : Nat) (h : p + k ≤ s.size) (w : World) :
    Calls Try.prog 36 #[.agg #[.int .i64 b, .string s], .int .i64 p, .int .i64 k] w fun e w' => e = .returned (.tuple #[.agg #[.int .i64 (b + p : Nat), .string (s.extract p (p + k))], .int .i64 0]) ∧ Bw w w' := by
  have h0 : subE s.size p k = 0 := subE_ok (by omega) (by omega)
  have := sub_any (b : Int) (by omega) (by omega) s hs (p : Nat) (k : Nat) w
  rw [h0, subS_ok h0, subB_ok h0] at this
  simpa using this
theorem sub_out (b : Nat) (hb : b ≤ 281474976710656) (s : ByteArray) (hs : s.size ≤ lim) (p k : Nat) (h : s.size < p + k) (w : World) :
    Calls Try.prog 36 #[.agg #[.int .i64 b, .string s], .int .i64 p, .int .i64 k] w fun e w' => e = .returned (.tuple #[.agg #[.int .i64 0, .string ⟨#[]⟩], .int .i64 2]) ∧ Bw w w' := by
  have h0 : subE s.size p k = 2 := subE_cut (by omega) (by omega)
  have := sub_any (b : Int) (by omega) (by omega) s hs (p : Nat) (k : Nat) w
  rw [h0, subS_bad (by rw [h0]; decide), subB_bad (by rw [h0]; decide)] at this
  exact this
theorem uint_in {s : ByteArray} {p d : Nat} (hd : widB (d : Int) = true) (h : p + d ≤ s.size) : uintE s.size p d = 0 := by
  rw [uintE_sub hd]
  exact subE_ok (by omega) (by omega)
theorem uintb_any (d : Nat) (hd : widB (d : Int) = true) (s : ByteArray) (hs : s.size ≤ lim) (p : Nat) (h : p + d ≤ s.size) (b : Nat) (hb : b ≤ 281474976710656) (w : World) :
    Calls Try.prog 37 #[.agg #[.int .i64 b, .string s], .int .i64 p, .int .i64 d, .bool true] w fun e w' => e = .returned (.tuple #[.int .u64 (numAt s p d true : Nat), .int .i64 0]) ∧ Bw w w' := by
  have h0 := uint_in hd h
  have q := uint_any b (by omega) (by omega) s hs p d true w
  rw [uintV_ok h0, h0] at q
  simpa using q
set_option maxRecDepth 100000 in
set_option maxHeartbeats 1000000 in
theorem place_any (D : ByteArray) (hD : D.size ≤ lim) (b a k : Nat) (hb : b ≤ 281474976710656) (hk : k ≤ 3) (h : a + 4 * k + 4 ≤ D.size) (wb ab : Nat) (w : World) (h1 : Has w wb 57 #[.int .i64 b, .string D]) (h2 : Has w ab 3 #[.int .i64 a]) :
    Calls Try.prog 58 #[.int .i64 k, .pointer (some ⟨wb, 0, none⟩), .pointer (some ⟨ab, 0, none⟩)] w fun e w' => e = .returned (.int .i64 (b4 D (a + 4 * k) : Nat)) ∧ Bw w w' := by
  have c0 : w.cell? ⟨wb, 0, none⟩ = some (.int .i64 b) := h1.cell 0
  have c1 : w.cell? ⟨wb, 1, none⟩ = some (.string D) := h1.cell 1
  have c2 : w.cell? ⟨ab, 0, none⟩ = some (.int .i64 a) := h2.cell 0
  have hl := hD
  unfold lim at hl
  have v1 : IntKind.i64.wrap (4 * (k : Int)) = ((4 * k : Nat) : Int) := by rw [IntWalk.i64_in _ (by omega)]; omega
  obtain ⟨q, hq⟩ : ∃ q, 4 * k = q := ⟨_, rfl⟩
  rw [hq] at v1 h ⊢
  have v2 : IntKind.i64.wrap ((a : Int) + (q : Int)) = ((a + q : Nat) : Int) := by rw [IntWalk.i64_in _ (by omega)]; omega
  obtain ⟨p, hp⟩ : ∃ p, a + q = p := ⟨_, rfl⟩
  rw [hp] at v2 h ⊢
  have HU := hid (fun W => uintb_any 4 rfl D hD p h b hb W)
  have hlt := b4_lt D p
  have HN := hid (show numAt D p 4 true = b4 D p from rfl)
  rw [HN.out] at HU
  obtain ⟨y, hy⟩ : ∃ y, b4 D p = y := ⟨_, rfl⟩
  rw [hy] at HU hlt ⊢
  have v3 : IntKind.i64.wrap (y : Int) = y := IntWalk.i64_in _ (by omega)
  clear hq hp hy HN
  go_enter Try.func58, Try.ntmps58
  go_wp2_with fail
  refine (HU.out _).mono ?_
  rintro e w2 ⟨rfl, hb2⟩
  have HB := hid hb2
  clear hb2 c0 c1 c2
  go_wp2
  go_returns
  exact ⟨rfl, HB.out⟩
set_option maxRecDepth 100000 in
set_option maxHeartbeats 2000000 in
theorem entry_any (D : ByteArray) (hD : D.size ≤ lim) (b a : Nat) (hb : b ≤ 281474976710656) (h : a + 16 ≤ D.size) (w : World) :
    Calls Try.prog 43 #[.agg #[.int .i64 b, .string D], .int .i64 a] w fun e w' => e = .returned (.agg #[.string (D.extract a (a + 4)), .int .u32 (b4 D (a + 4) : Nat), .int .i64 (b4 D (a + 8) : Nat), .int .i64 (b4 D (a + 12) : Nat)]) ∧ Bw w w' := by
  have hl := hD
  unfold lim at hl
  have HP1 := hid (fun W x y h1 h2 => (show Calls Try.prog 58 #[.int .i64 1, .pointer (some ⟨x, 0, none⟩), .pointer (some ⟨y, 0, none⟩)] W fun e w' => e = .returned (.int .i64 (b4 D (a + 4) : Nat)) ∧ Bw W w' from place_any D hD b a 1 hb (by omega) (by omega) x y W h1 h2))
  have HP2 := hid (fun W x y h1 h2 => (show Calls Try.prog 58 #[.int .i64 2, .pointer (some ⟨x, 0, none⟩), .pointer (some ⟨y, 0, none⟩)] W fun e w' => e = .returned (.int .i64 (b4 D (a + 8) : Nat)) ∧ Bw W w' from place_any D hD b a 2 hb (by omega) (by omega) x y W h1 h2))
  have HP3 := hid (fun W x y h1 h2 => (show Calls Try.prog 58 #[.int .i64 3, .pointer (some ⟨x, 0, none⟩), .pointer (some ⟨y, 0, none⟩)] W fun e w' => e = .returned (.int .i64 (b4 D (a + 12) : Nat)) ∧ Bw W w' from place_any D hD b a 3 hb (by omega) (by omega) x y W h1 h2))
  have HT := hid (fun W => text_any b D hD W)
  obtain ⟨y1, hy1⟩ : ∃ y, b4 D (a + 4) = y := ⟨_, rfl⟩
  obtain ⟨y2, hy2⟩ : ∃ y, b4 D (a + 8) = y := ⟨_, rfl⟩
  obtain ⟨y3, hy3⟩ : ∃ y, b4 D (a + 12) = y := ⟨_, rfl⟩
  have l1 := b4_lt D (a + 4)
  rw [hy1] at HP1 l1 ⊢
  rw [hy2] at HP2 ⊢
  rw [hy3] at HP3 ⊢
  have v2 : IntKind.u32.wrap (y1 : Int) = y1 := IntWalk.u32_in _ (by omega)
  have hj0 : (0 : Int) ≤ (a : Int) := by omega
  obtain ⟨q, hq⟩ : ∃ q, a + 4 = q := ⟨_, rfl⟩
  have HQ := hid hq
  have v1 : IntKind.i64.wrap ((a : Int) + 4) = (q : Int) := by rw [IntWalk.i64_in _ (by omega)]; omega
  have hj1 : (a : Int) ≤ (q : Int) := by omega
  have hj2 : (q : Int) ≤ (D.size : Int) := by omega
  have hj3 : (0 : Int) ≤ (q : Int) := by omega
  rw [hq]
  clear hq
  obtain ⟨wb, hwb⟩ : ∃ x, w.heap.size = x := ⟨_, rfl⟩
  have HA := hid (((Has.new w 57 #[.int .i64 b, .string D]).alloc (.cells #[.int .i64 a] 3)).alloc (.cells #[.string ⟨#[]⟩, .int .u32 0, .int .i64 0, .int .i64 0] 50))
  have HB := hid ((Has.new (w.alloc (.cells #[.int .i64 b, .string D] 57)) 3 #[.int .i64 a]).alloc (.cells #[.string ⟨#[]⟩, .int .u32 0, .int .i64 0, .int .i64 0] 50))
  have HC := hid (Has.new ((w.alloc (.cells #[.int .i64 b, .string D] 57)).alloc (.cells #[.int .i64 a] 3)) 50 #[.string ⟨#[]⟩, .int .u32 0, .int .i64 0, .int .i64 0])
  have HW := hid ((((Bw.refl w).alloc (.cells #[.int .i64 b, .string D] 57)).alloc (.cells #[.int .i64 a] 3)).alloc (.cells #[.string ⟨#[]⟩, .int .u32 0, .int .i64 0, .int .i64 0] 50))
  simp only [World.size_alloc, hwb] at HA HB HC
  have HWB := hid (show w.heap.size ≤ wb + 1 + 1 by omega)
  clear hy1 hy2 hy3
  go_enter Try.func43, Try.ntmps43
  go_upto_region 2 with fail
  generalize ((w.alloc (.cells #[.int .i64 b, .string D] 57)).alloc (.cells #[.int .i64 a] 3)).alloc (.cells #[.string ⟨#[]⟩, .int .u32 0, .int .i64 0, .int .i64 0] 50) = w1 at *
  clear hwb
  have HS := hid (fun W (h : Bw w1 W) => (show W.cell? ⟨wb, 0, none⟩ = some (.int .i64 b) ∧ W.cell? ⟨wb, 1, none⟩ = some (.string D) ∧ W.cell? ⟨wb + 1, 0, none⟩ = some (.int .i64 a) from ⟨(h.has HA.out).cell 0, (h.has HA.out).cell 1, (h.has HB.out).cell 0⟩))
  have HS5 := hid (fun W (h : Bw w1 W) u0 u1 u2 u3 => (show (put4 W (wb + 1 + 1) u0 u1 u2 u3).cell? ⟨wb, 0, none⟩ = some (.int .i64 b) ∧ (put4 W (wb + 1 + 1) u0 u1 u2 u3).cell? ⟨wb, 1, none⟩ = some (.string D) ∧ (put4 W (wb + 1 + 1) u0 u1 u2 u3).cell? ⟨wb + 1, 0, none⟩ = some (.int .i64 a) from
    ⟨(put4_far (h.has HA.out) (by omega) u0 u1 u2 u3).cell 0, (put4_far (h.has HA.out) (by omega) u0 u1 u2 u3).cell 1, (put4_far (h.has HB.out) (by omega) u0 u1 u2 u3).cell 0⟩))
  have HB0 := hid (show Bw w1 w1.drew from (Bw.refl w1).drewN 1)
  go_region_held (fun W => W.cell? ⟨wb, 0, none⟩ = some (.int .i64 b) ∧ W.cell? ⟨wb, 1, none⟩ = some (.string D) ∧ W.cell? ⟨wb + 1, 0, none⟩ = some (.int .i64 a))
    (first | (with_reducible exact HS.out _ HB4.out) | (with_reducible exact HS.out _ HB3.out) | (with_reducible exact HS.out _ HB2.out) | (with_reducible exact HS.out _ HB1.out) | (with_reducible exact HS.out _ HB0.out) | exact HS5.out _ HB4.out _ _ _ _)
    (first
      | (go_at_call 38; refine (HT.out _).mono ?_; rintro e w2 ⟨rfl, hb2⟩; have HB1 := hid (HB0.out.trans hb2); clear hb2)
      | (go_at_call 58; (with_reducible refine (HP3.out _ _ _ (HB3.out.has HA.out) (HB3.out.has HB.out)).mono ?_); rintro e w2 ⟨rfl, hb2⟩; have HB4 := hid (HB3.out.trans hb2); clear hb2; have q0 : w2.cell? ⟨wb + 1 + 1, 0, none⟩ = some (.string ⟨#[]⟩) := (HB4.out.has HC.out).cell 0; have q1 : w2.cell? ⟨wb + 1 + 1, 1, none⟩ = some (.int .u32 0) := (HB4.out.has HC.out).cell 1; have q2 : w2.cell? ⟨wb + 1 + 1, 2, none⟩ = some (.int .i64 0) := (HB4.out.has HC.out).cell 2; have q3 : w2.cell? ⟨wb + 1 + 1, 3, none⟩ = some (.int .i64 0) := (HB4.out.has HC.out).cell 3; have f0 := (HB4.out.has HC.out).frozen 0; have f1 := (HB4.out.has HC.out).frozen 1; have f2 := (HB4.out.has HC.out).frozen 2; have f3 := (HB4.out.has HC.out).frozen 3)
      | (go_at_call 58; (with_reducible refine (HP2.out _ _ _ (HB2.out.has HA.out) (HB2.out.has HB.out)).mono ?_); rintro e w2 ⟨rfl, hb2⟩; have HB3 := hid (HB2.out.trans hb2); clear hb2)
      | (go_at_call 58; (with_reducible refine (HP1.out _ _ _ (HB1.out.has HA.out) (HB1.out.has HB.out)).mono ?_); rintro e w2 ⟨rfl, hb2⟩; have HB2 := hid (HB1.out.trans hb2); clear hb2))
  have HP := hid (put4_has (HB4.out.has HC.out) (.string (D.extract a q)) (.int .u32 y1) (.int .i64 y2) (.int .i64 y3))
  have HBW := hid (put4_bw (HW.out.trans HB4.out) HWB.out (.string (D.extract a q)) (.int .u32 y1) (.int .i64 y2) (.int .i64 y3))
  unfold put4 at HP HBW
  generalize World.setCell (World.setCell (World.setCell (World.setCell w2 _ _) _ _) _ _) _ _ = w3 at *
  have p0 := HP.out.cell 0
  have p1 := HP.out.cell 1
  have p2 := HP.out.cell 2
  have p3 := HP.out.cell 3
  simp only [List.getElem?_toArray, List.getElem?_cons_zero, List.getElem?_cons_succ] at p0 p1 p2 p3
  go_wp2_with fail
  refine bodyPost_ret (by simp [results, Try.results43, go_sem, p0, p1, p2, p3]; try rfl) rfl ?_
  exact ⟨rfl, HBW.out⟩
end Go.Proofs.Ytciaebhkemdilab

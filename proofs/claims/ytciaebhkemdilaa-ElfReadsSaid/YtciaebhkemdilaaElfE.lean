/- A segment's header (contract of the method). -/
import Derived.Test.YtciaebhkemdilaaElfC
import Derived.Test.YtciaebhkemdilaaKitS
namespace Go.Proofs.Ytciaebhkemdilaa
open Go.RowKit
set_option linter.unusedVariables false
set_option linter.unusedSimpArgs false
def segV (x : SegR) : List Value := [.int .i64 x.typ, .int .i64 x.flg, .int .i64 x.off, .int .u64 x.vad, .int .u64 x.pad, .int .i64 x.fsz, .int .u64 x.msz, .int .u64 x.aln]
/-- What segment does: the reader at g stands at 56 i of its part. -/
def SegQ (s : ByteArray) (g b : Nat) (T : ByteArray) (q h : Nat) (w : World) (e : Ending) (w' : World) : Prop :=
  Keeps (· = g) w w' ∧ ((segE s h = 0 ∧ e = .returned (.agg (segV (segC s h)).toArray) ∧ Rdr w' g b T (q + 56)) ∨ (segE s h ≠ 0 ∧ e = pan (segE s h)))
theorem Keeps.bw1 {w a b : World} {F : Nat → Prop} (h : Keeps F w a) (k : Bw a b) : Keeps F w b := h.trans (.of_bw k)
set_option maxRecDepth 100000 in
set_option maxHeartbeats 8000000 in
theorem segment_any (s : ByteArray) (hs : s.size ≤ lim) (g b : Nat) (hb : b ≤ 281474976710656) (p k q : Nat) (hp : p + k ≤ s.size) (hq : q + 56 ≤ k) (w : World) (hr : Rdr w g b (s.extract p (p + k)) q) :
    Calls Try.prog 44 #[.agg #[.int .i64 0, .string s], .pointer (some ⟨g, 0, none⟩)] w (SegQ s g b (s.extract p (p + k)) q (p + q) w) := by
  have hl : s.size ≤ 281474976710656 := hs
  have hT : (s.extract p (p + k)).size = k := by simp; omega
  have hnp : ∀ d a, a + d ≤ k → numAt (s.extract p (p + k)) a d false = numAt s (p + a) d false := fun d a h => num_part s p k a d h hp
  have e0 : n4 (s.extract p (p + k)) q = n4 s (p + q) := by
    have := hnp 4 q (by omega)
    rwa [show p + q = p + q by omega] at this
  have e4 : n4 (s.extract p (p + k)) (q + 4) = n4 s (p + q + 4) := by
    have := hnp 4 (q + 4) (by omega)
    rwa [show p + (q + 4) = p + q + 4 by omega] at this
  have e8 : n8 (s.extract p (p + k)) (q + 8) = n8 s (p + q + 8) := by
    have := hnp 8 (q + 8) (by omega)
    rwa [show p + (q + 8) = p + q + 8 by omega] at this
  have e16 : n8 (s.extract p (p + k)) (q + 16) = n8 s (p + q + 16) := by
    have := hnp 8 (q + 16) (by omega)
    rwa [show p + (q + 16) = p + q + 16 by omega] at this
  have e24 : n8 (s.extract p (p + k)) (q + 24) = n8 s (p + q + 24) := by
    have := hnp 8 (q + 24) (by omega)
    rwa [show p + (q + 24) = p + q + 24 by omega] at this
  have e32 : n8 (s.extract p (p + k)) (q + 32) = n8 s (p + q + 32) := by
    have := hnp 8 (q + 32) (by omega)
    rwa [show p + (q + 32) = p + q + 32 by omega] at this
  have e40 : n8 (s.extract p (p + k)) (q + 40) = n8 s (p + q + 40) := by
    have := hnp 8 (q + 40) (by omega)
    rwa [show p + (q + 40) = p + q + 40 by omega] at this
  have e48 : n8 (s.extract p (p + k)) (q + 48) = n8 s (p + q + 48) := by
    have := hnp 8 (q + 48) (by omega)
    rwa [show p + (q + 48) = p + q + 48 by omega] at this
  obtain ⟨T, hTT⟩ : ∃ T, s.extract p (p + k) = T := ⟨_, rfl⟩
  have hlT : T.size ≤ lim := by rw [← hTT, hT]; unfold lim; omega
  have C0 := hid (fun W (h : Rdr W g b T q) => word_any (w := W) hb hlT (by rw [← hTT]; omega) h)
  have C4 := hid (fun W (h : Rdr W g b T (q + 4)) => word_any (w := W) hb hlT (by rw [← hTT]; omega) h)
  simp only [Nat.add_assoc, Nat.reduceAdd] at C4
  have C8 := hid (fun W (h : Rdr W g b T (q + 8)) => amount_any (w := W) hb hlT (by rw [← hTT]; omega) h)
  simp only [Nat.add_assoc, Nat.reduceAdd] at C8
  have C16 := hid (fun W (h : Rdr W g b T (q + 16)) => long_any (w := W) hb hlT (by rw [← hTT]; omega) h)
  simp only [Nat.add_assoc, Nat.reduceAdd] at C16
  have C24 := hid (fun W (h : Rdr W g b T (q + 24)) => long_any (w := W) hb hlT (by rw [← hTT]; omega) h)
  simp only [Nat.add_assoc, Nat.reduceAdd] at C24
  have C32 := hid (fun W (h : Rdr W g b T (q + 32)) => amount_any (w := W) hb hlT (by rw [← hTT]; omega) h)
  simp only [Nat.add_assoc, Nat.reduceAdd] at C32
  have C40 := hid (fun W (h : Rdr W g b T (q + 40)) => long_any (w := W) hb hlT (by rw [← hTT]; omega) h)
  simp only [Nat.add_assoc, Nat.reduceAdd] at C40
  have C48 := hid (fun W (h : Rdr W g b T (q + 48)) => long_any (w := W) hb hlT (by rw [← hTT]; omega) h)
  simp only [Nat.add_assoc, Nat.reduceAdd] at C48
  rw [hTT] at hr hT e0 e4 e8 e16 e24 e32 e40 e48 ⊢
  rw [e0] at C0
  rw [e4] at C4
  rw [e8] at C8
  rw [e16] at C16
  rw [e24] at C24
  rw [e32] at C32
  rw [e40] at C40
  rw [e48] at C48
  have HPO := hid (fun W (h : n8 s (p + q + 8) + n8 s (p + q + 32) ≤ s.size) => part_ok s hs (n8 s (p + q + 8)) (n8 s (p + q + 32)) h W)
  have HPB := hid (fun W (h : n8 s (p + q + 32) ≤ great) (h2 : s.size < n8 s (p + q + 8) + n8 s (p + q + 32)) => part_bad s hs (n8 s (p + q + 8)) (n8 s (p + q + 32)) (n8_lt _ _) h h2 W)
  have HGOOD := hid (fun e w' (hk : Keeps (· = g) w w') (h1 : n8 s (p + q + 8) ≤ great) (h2 : n8 s (p + q + 32) ≤ great) (h3 : n8 s (p + q + 8) + n8 s (p + q + 32) ≤ s.size) (hr : Rdr w' g b T (q + 56)) (he : e = .returned (.agg #[.int .i64 (n4 s (p + q)), .int .i64 (n4 s (p + q + 4)), .int .i64 (n8 s (p + q + 8)), .int .u64 (n8 s (p + q + 16)), .int .u64 (n8 s (p + q + 24)), .int .i64 (n8 s (p + q + 32)), .int .u64 (n8 s (p + q + 40)), .int .u64 (n8 s (p + q + 48))])) =>
    (show SegQ s g b T q (p + q) w e w' from ⟨hk, .inl ⟨by unfold segE; rw [if_neg (by omega), if_neg (by omega)], he, hr⟩⟩))
  have HBAD3 := hid (fun e w' (hk : Keeps (· = g) w w') (h : great < n8 s (p + q + 8) ∨ great < n8 s (p + q + 32)) (he : e = pan 3) => (show SegQ s g b T q (p + q) w e w' from ⟨hk, .inr ⟨by unfold segE; rw [if_pos h]; decide, by unfold segE; rw [if_pos h]; exact he⟩⟩))
  have HBAD2 := hid (fun e w' (hk : Keeps (· = g) w w') (h1 : n8 s (p + q + 8) ≤ great) (h2 : n8 s (p + q + 32) ≤ great) (h : s.size < n8 s (p + q + 8) + n8 s (p + q + 32)) (he : e = pan 2) => (show SegQ s g b T q (p + q) w e w' from ⟨hk, .inr ⟨by unfold segE; rw [if_neg (by omega), if_pos h]; decide, by unfold segE; rw [if_neg (by omega), if_pos h]; exact he⟩⟩))
  clear hnp hTT e0 e4 e8 e16 e24 e32 e40 e48
  have l0 := n4_lt s (p + q)
  have l4 := n4_lt s (p + q + 4)
  have l8 := n8_lt s (p + q + 8)
  have l32 := n8_lt s (p + q + 32)
  obtain ⟨x0, hx0⟩ : ∃ x, n4 s (p + q) = x := ⟨_, rfl⟩
  rw [hx0] at C0 l0 HGOOD
  obtain ⟨x4, hx4⟩ : ∃ x, n4 s (p + q + 4) = x := ⟨_, rfl⟩
  rw [hx4] at C4 l4 HGOOD
  obtain ⟨x8, hx8⟩ : ∃ x, n8 s (p + q + 8) = x := ⟨_, rfl⟩
  rw [hx8] at C8 l8 HPO HPB HBAD3 HBAD2 HGOOD
  obtain ⟨x16, hx16⟩ : ∃ x, n8 s (p + q + 16) = x := ⟨_, rfl⟩
  rw [hx16] at C16 HGOOD
  obtain ⟨x24, hx24⟩ : ∃ x, n8 s (p + q + 24) = x := ⟨_, rfl⟩
  rw [hx24] at C24 HGOOD
  obtain ⟨x32, hx32⟩ : ∃ x, n8 s (p + q + 32) = x := ⟨_, rfl⟩
  rw [hx32] at C32 l32 HPO HPB HBAD3 HBAD2 HGOOD
  obtain ⟨x40, hx40⟩ : ∃ x, n8 s (p + q + 40) = x := ⟨_, rfl⟩
  rw [hx40] at C40 HGOOD
  obtain ⟨x48, hx48⟩ : ∃ x, n8 s (p + q + 48) = x := ⟨_, rfl⟩
  rw [hx48] at C48 HGOOD
  clear hx0 hx4 hx8 hx16 hx24 hx32 hx40 hx48
  have HR := hid hr
  have HF := hid (Has.new w 49 #[.int .i64 0, .string s])
  obtain ⟨fb, hfb⟩ : ∃ fb, w.heap.size = fb := ⟨_, rfl⟩
  have HFB := hid hfb
  rw [hfb] at HF
  have HG := hid (show g < fb by rw [← hfb]; exact Has.lt hr)
  have HF1 := hid (HF.out.alloc (.cells #[.int .i64 0, .int .i64 0, .int .i64 0, .int .u64 0, .int .u64 0, .int .i64 0, .int .u64 0, .int .u64 0] 61))
  have HZ1 := hid (show Has ((w.alloc (.cells #[.int .i64 0, .string s] 49)).alloc (.cells #[.int .i64 0, .int .i64 0, .int .i64 0, .int .u64 0, .int .u64 0, .int .i64 0, .int .u64 0, .int .u64 0] 61)) (fb + 1) 61 #[.int .i64 0, .int .i64 0, .int .i64 0, .int .u64 0, .int .u64 0, .int .i64 0, .int .u64 0, .int .u64 0] from by
    have := Has.new (w.alloc (.cells #[.int .i64 0, .string s] 49)) 61 #[.int .i64 0, .int .i64 0, .int .i64 0, .int .u64 0, .int .u64 0, .int .i64 0, .int .u64 0, .int .u64 0]
    rw [World.size_alloc, hfb] at this
    exact this)
  have HK1 := hid (show Keeps (· = g) w _ from .of_bw (((Bw.refl w).alloc (.cells #[.int .i64 0, .string s] 49)).alloc (.cells #[.int .i64 0, .int .i64 0, .int .i64 0, .int .u64 0, .int .u64 0, .int .i64 0, .int .u64 0, .int .u64 0] 61)))
  have HR1 := hid (show Rdr _ g b T q from (hr.alloc (.cells #[.int .i64 0, .string s] 49)).alloc (.cells #[.int .i64 0, .int .i64 0, .int .i64 0, .int .u64 0, .int .u64 0, .int .i64 0, .int .u64 0, .int .u64 0] 61))
  clear hr HF
  go_enter Try.func44, Try.ntmps44
  go_wp2_with fail
  generalize (w.alloc (.cells #[.int .i64 0, .string s] 49)).alloc _ = w1 at *
  refine (C0.out _ HR1.out).mono ?_
  rintro e w2 ⟨rfl, h1, h2⟩
  have HR2 := hid h1
  have HK2 := hid (HK1.out.trans h2)
  have HF2 := hid (h2.has HF1.out (show fb ≠ g by have := HG.out; omega))
  have HZ2 := hid (h2.has HZ1.out (show fb + 1 ≠ g by have := HG.out; omega))
  clear h1 h2 HR1 HK1 HF1 HZ1 C0
  go_wp2_with fail
  refine (C4.out _ HR2.out).mono ?_
  rintro e w3 ⟨rfl, h1, h2⟩
  have HR3 := hid h1
  have HK3 := hid (HK2.out.trans h2)
  have HF3 := hid (h2.has HF2.out (show fb ≠ g by have := HG.out; omega))
  have HZ3 := hid (h2.has HZ2.out (show fb + 1 ≠ g by have := HG.out; omega))
  clear h1 h2 HR2 HK2 HF2 HZ2 C4
  go_wp2_with fail
  refine (C8.out _ HR3.out).mono ?_
  rintro e w4 ⟨h2, h1, hx⟩
  have HR4 := hid h1
  have HK4 := hid (HK3.out.trans h2)
  have HF4 := hid (h2.has HF3.out (show fb ≠ g by have := HG.out; omega))
  have HZ4 := hid (h2.has HZ3.out (show fb + 1 ≠ g by have := HG.out; omega))
  clear h1 h2 HR3 HK3 HF3 HZ3 C8
  rcases hx with ⟨hg8, rfl⟩ | ⟨hg8, rfl⟩
  case inr => exact ⟨rfl, HBAD3.out _ _ HK4.out (.inl hg8) rfl⟩
  have HG8 := hid hg8
  clear hg8
  go_wp2_with fail
  refine (C16.out _ HR4.out).mono ?_
  rintro e w5 ⟨rfl, h1, h2⟩
  have HR5 := hid h1
  have HK5 := hid (HK4.out.trans h2)
  have HF5 := hid (h2.has HF4.out (show fb ≠ g by have := HG.out; omega))
  have HZ5 := hid (h2.has HZ4.out (show fb + 1 ≠ g by have := HG.out; omega))
  clear h1 h2 HR4 HK4 HF4 HZ4 C16
  go_wp2_with fail
  refine (C24.out _ HR5.out).mono ?_
  rintro e w6 ⟨rfl, h1, h2⟩
  have HR6 := hid h1
  have HK6 := hid (HK5.out.trans h2)
  have HF6 := hid (h2.has HF5.out (show fb ≠ g by have := HG.out; omega))
  have HZ6 := hid (h2.has HZ5.out (show fb + 1 ≠ g by have := HG.out; omega))
  clear h1 h2 HR5 HK5 HF5 HZ5 C24
  go_wp2_with fail
  refine (C32.out _ HR6.out).mono ?_
  rintro e w7 ⟨h2, h1, hx⟩
  have HR7 := hid h1
  have HK7 := hid (HK6.out.trans h2)
  have HF7 := hid (h2.has HF6.out (show fb ≠ g by have := HG.out; omega))
  have HZ7 := hid (h2.has HZ6.out (show fb + 1 ≠ g by have := HG.out; omega))
  clear h1 h2 HR6 HK6 HF6 HZ6 C32
  rcases hx with ⟨hg32, rfl⟩ | ⟨hg32, rfl⟩
  case inr => exact ⟨rfl, HBAD3.out _ _ HK7.out (.inr hg32) rfl⟩
  have HG32 := hid hg32
  clear hg32
  go_wp2_with fail
  refine (C40.out _ HR7.out).mono ?_
  rintro e w8 ⟨rfl, h1, h2⟩
  have HR8 := hid h1
  have HK8 := hid (HK7.out.trans h2)
  have HF8 := hid (h2.has HF7.out (show fb ≠ g by have := HG.out; omega))
  have HZ8 := hid (h2.has HZ7.out (show fb + 1 ≠ g by have := HG.out; omega))
  clear h1 h2 HR7 HK7 HF7 HZ7 C40
  go_wp2_with fail
  refine (C48.out _ HR8.out).mono ?_
  rintro e w9 ⟨rfl, h1, h2⟩
  have HR9 := hid h1
  have HK9 := hid (HK8.out.trans h2)
  have HF9 := hid (h2.has HF8.out (show fb ≠ g by have := HG.out; omega))
  have HZ9 := hid (h2.has HZ8.out (show fb + 1 ≠ g by have := HG.out; omega))
  clear h1 h2 HR8 HK8 HF8 HZ8 C48
  have HX := hid (Has.new w9 61 #[.int .i64 x0, .int .i64 x4, .int .i64 x8, .int .u64 x16, .int .u64 x24, .int .i64 x32, .int .u64 x40, .int .u64 x48])
  have HRX := hid (show Rdr _ g b T _ from HR9.out.alloc (.cells #[.int .i64 x0, .int .i64 x4, .int .i64 x8, .int .u64 x16, .int .u64 x24, .int .i64 x32, .int .u64 x40, .int .u64 x48] 61))
  have HKX := hid (HK9.out.alloc (.cells #[.int .i64 x0, .int .i64 x4, .int .i64 x8, .int .u64 x16, .int .u64 x24, .int .i64 x32, .int .u64 x40, .int .u64 x48] 61))
  have HFX := hid (HF9.out.alloc (.cells #[.int .i64 x0, .int .i64 x4, .int .i64 x8, .int .u64 x16, .int .u64 x24, .int .i64 x32, .int .u64 x40, .int .u64 x48] 61))
  have HZX := hid (HZ9.out.alloc (.cells #[.int .i64 x0, .int .i64 x4, .int .i64 x8, .int .u64 x16, .int .u64 x24, .int .i64 x32, .int .u64 x40, .int .u64 x48] 61))
  obtain ⟨xb, hxb⟩ : ∃ xb, w9.heap.size = xb := ⟨_, rfl⟩
  rw [hxb] at HX
  have HXB := hid (show fb + 1 < xb by rw [← hxb]; exact HZ9.out.lt)
  have f0 : (w9.alloc (.cells #[.int .i64 x0, .int .i64 x4, .int .i64 x8, .int .u64 x16, .int .u64 x24, .int .i64 x32, .int .u64 x40, .int .u64 x48] 61)).cell? ⟨fb, 0, none⟩ = some (.int .i64 0) := HFX.out.cell 0
  have f1 : (w9.alloc (.cells #[.int .i64 x0, .int .i64 x4, .int .i64 x8, .int .u64 x16, .int .u64 x24, .int .i64 x32, .int .u64 x40, .int .u64 x48] 61)).cell? ⟨fb, 1, none⟩ = some (.string s) := HFX.out.cell 1
  have y2 : (w9.alloc (.cells #[.int .i64 x0, .int .i64 x4, .int .i64 x8, .int .u64 x16, .int .u64 x24, .int .i64 x32, .int .u64 x40, .int .u64 x48] 61)).cell? ⟨xb, 2, none⟩ = some (.int .i64 x8) := HX.out.cell 2
  have y5 : (w9.alloc (.cells #[.int .i64 x0, .int .i64 x4, .int .i64 x8, .int .u64 x16, .int .u64 x24, .int .i64 x32, .int .u64 x40, .int .u64 x48] 61)).cell? ⟨xb, 5, none⟩ = some (.int .i64 x32) := HX.out.cell 5
  have v1 : IntKind.u64.wrap (x8 : Int) = x8 := IntWalk.u64_in _ (by have := HG8.out; unfold great at this; omega)
  clear HR9 HK9 HF9 HZ9 HR
  go_wp2_with fail
  generalize w9.alloc (.cells #[.int .i64 x0, .int .i64 x4, .int .i64 x8, .int .u64 x16, .int .u64 x24, .int .i64 x32, .int .u64 x40, .int .u64 x48] 61) = wx at *
  clear f0 f1 y2 y5 HFX hxb
  by_cases hc : x8 + x32 ≤ s.size
  case neg =>
    have HP := hid (HPB.out wx (by have := HG32.out; exact this) (by omega))
    refine HP.out.mono ?_
    rintro e wy ⟨rfl, hby⟩
    exact ⟨rfl, HBAD2.out _ _ (HKX.out.trans (.of_bw hby)) HG8.out HG32.out (by omega) rfl⟩
  have HC := hid hc
  refine (HPO.out wx hc).mono ?_
  rintro e wy ⟨g2, rfl, -, -, hby⟩
  have HKY := hid (HKX.out.trans (.of_bw hby))
  have HRY := hid (show Rdr wy g b T _ from hby.has HRX.out)
  have HXY := hid (hby.has HX.out)
  have HZY := hid (hby.has HZX.out)
  clear hby HKX HRX HX HZX HPO HPB hc
  have HPN := hid (HZY.out.set [.int .i64 x0, .int .i64 x4, .int .i64 x8, .int .u64 x16, .int .u64 x24, .int .i64 x32, .int .u64 x40, .int .u64 x48] rfl)
  have HKN := hid (show Keeps (· = g) w (wy.setCells (fb + 1) 0 [.int .i64 x0, .int .i64 x4, .int .i64 x8, .int .u64 x16, .int .u64 x24, .int .i64 x32, .int .u64 x40, .int .u64 x48]) from HKY.out.set (show w.heap.size ≤ fb + 1 by rw [HFB.out]; omega) [.int .i64 x0, .int .i64 x4, .int .i64 x8, .int .u64 x16, .int .u64 x24, .int .i64 x32, .int .u64 x40, .int .u64 x48])
  have HRN := hid (show Rdr (wy.setCells (fb + 1) 0 [.int .i64 x0, .int .i64 x4, .int .i64 x8, .int .u64 x16, .int .u64 x24, .int .i64 x32, .int .u64 x40, .int .u64 x48]) g b T _ from Has.set_far HRY.out (by have := HG.out; omega) [.int .i64 x0, .int .i64 x4, .int .i64 x8, .int .u64 x16, .int .u64 x24, .int .i64 x32, .int .u64 x40, .int .u64 x48])
  go_upto_region 3 with fail
  refine wp_region_list ?_
  refine wpList_load_mid rfl 61 (.tmp 5) rfl (xb) 0 rfl [.int .i64 x0, .int .i64 x4, .int .i64 x8, .int .u64 x16, .int .u64 x24, .int .i64 x32, .int .u64 x40, .int .u64 x48] _ HXY.out.range Try.underlying61 rfl inf_Segment ?_
  simp only [Act.put, List.setIfInBounds_toArray, List.set_cons_zero, List.set_cons_succ]
  refine wpList_store_mid rfl 61 (.tmp 4) (.tmp 30) rfl (fb + 1) 0 #[.int .i64 x0, .int .i64 x4, .int .i64 x8, .int .u64 x16, .int .u64 x24, .int .i64 x32, .int .u64 x40, .int .u64 x48] rfl rfl (HZY.out.there 8 (Nat.le_refl _)) inf_Segment (by simp only [List.all_toArray, List.all_cons, List.all_nil]; rfl) ?_
  generalize World.setCells wy _ _ _ = wz at *
  go_wp2_with fail
  have p0 := HPN.out.cell 0
  have p1 := HPN.out.cell 1
  have p2 := HPN.out.cell 2
  have p3 := HPN.out.cell 3
  have p4 := HPN.out.cell 4
  have p5 := HPN.out.cell 5
  have p6 := HPN.out.cell 6
  have p7 := HPN.out.cell 7
  simp only [List.getElem?_toArray, List.getElem?_cons_zero, List.getElem?_cons_succ] at p0 p1 p2 p3 p4 p5 p6 p7
  refine bodyPost_ret (by simp [results, Try.results44, go_sem, p0, p1, p2, p3, p4, p5, p6, p7]; try rfl) rfl ?_
  exact HGOOD.out _ _ HKN.out HG8.out HG32.out HC.out HRN.out rfl
end Go.Proofs.Ytciaebhkemdilaa

/- A section's header (contract of the method). -/
import Derived.Test.YtciaebhkemdilaaElfC
import Derived.Test.YtciaebhkemdilaaKitS
namespace Go.Proofs.Ytciaebhkemdilaa
open Go.RowKit
set_option linter.unusedVariables false
set_option linter.unusedSimpArgs false
/-- A section as it is read first: its name is still a place, its Data beside it. -/
def secV (s : ByteArray) (h : Nat) (nm : ByteArray) : List Value := [.string nm, .int .i64 (n4 s (h + 4)), .int .u64 (n8 s (h + 8)), .int .u64 (n8 s (h + 16)), .string ⟨#[]⟩, .int .i64 (secZ s h), .int .i64 (n4 s (h + 40)), .int .i64 (n4 s (h + 44)), .int .u64 (n8 s (h + 48)), .int .u64 (n8 s (h + 56)), .int .i64 (n4 s h), .string (secD s h)]
/-- What section does. -/
def SecQ (s : ByteArray) (g b : Nat) (T : ByteArray) (q h : Nat) (w : World) (e : Ending) (w' : World) : Prop :=
  Keeps (· = g) w w' ∧ ((secE s h = 0 ∧ e = .returned (.agg (secV s h ⟨#[]⟩).toArray) ∧ Rdr w' g b T (q + 64)) ∨ (secE s h ≠ 0 ∧ e = pan (secE s h)))
/-- While a section's header is read: the reader at g, the file's box at fb, the result's at rb, the section at xb. -/
structure SecW (w0 : World) (g b fb rb xb : Nat) (s T : ByteArray) (q : Nat) (cs : Array Value) (w : World) : Prop where
  ke : Keeps (· = g) w0 w
  rd : Rdr w g b T q
  fi : Has w fb 49 #[.int .i64 0, .string s]
  rs : Has w rb 95 #[.string ⟨#[]⟩, .int .i64 0, .int .u64 0, .int .u64 0, .string ⟨#[]⟩, .int .i64 0, .int .i64 0, .int .i64 0, .int .u64 0, .int .u64 0, .int .i64 0, .string ⟨#[]⟩]
  xs : Has w xb 95 cs
  n1 : fb ≠ g
  n2 : rb ≠ g
  n3 : xb ≠ g
  n4 : fb ≠ xb
  n5 : rb ≠ xb
  l3 : w0.heap.size ≤ xb
  l2 : w0.heap.size ≤ rb
section
variable {w0 w w' : World} {g b fb rb xb : Nat} {s T : ByteArray} {q q' : Nat} {cs : Array Value}
theorem SecW.step (h : SecW w0 g b fb rb xb s T q cs w) (hr : Rdr w' g b T q') (hk : Keeps (· = g) w w') : SecW w0 g b fb rb xb s T q' cs w' :=
  ⟨h.ke.trans hk, hr, hk.has h.fi h.n1, hk.has h.rs h.n2, hk.has h.xs h.n3, h.n1, h.n2, h.n3, h.n4, h.n5, h.l3, h.l2⟩
theorem SecW.bw (h : SecW w0 g b fb rb xb s T q cs w) (hb : Bw w w') : SecW w0 g b fb rb xb s T q cs w' := h.step (hb.has h.rd) (.of_bw hb)
theorem SecW.put (h : SecW w0 g b fb rb xb s T q cs w) (i : Nat) (v : Value) : SecW w0 g b fb rb xb s T q (cs.setIfInBounds i v) (w.setCell ⟨xb, i, none⟩ v) :=
  ⟨h.ke.setCell (.inr h.l3) v, Has.far h.rd (p := ⟨xb, i, none⟩) h.n3.symm v, h.fi.far (p := ⟨xb, i, none⟩) h.n4 v, h.rs.far (p := ⟨xb, i, none⟩) h.n5 v, h.xs.put i v, h.n1, h.n2, h.n3, h.n4, h.n5, h.l3, h.l2⟩
end
set_option maxRecDepth 100000 in
set_option maxHeartbeats 8000000 in
theorem section_any (s : ByteArray) (hs : s.size ≤ lim) (g b : Nat) (hb : b ≤ 281474976710656) (p k q : Nat) (hp : p + k ≤ s.size) (hq : q + 64 ≤ k) (w : World) (hr : Rdr w g b (s.extract p (p + k)) q) :
    Calls Try.prog 79 #[.agg #[.int .i64 0, .string s], .pointer (some ⟨g, 0, none⟩)] w (SecQ s g b (s.extract p (p + k)) q (p + q) w) := by
  have hl : s.size ≤ 281474976710656 := hs
  have hT : (s.extract p (p + k)).size = k := by simp; omega
  have hnp : ∀ d a, a + d ≤ k → numAt (s.extract p (p + k)) a d false = numAt s (p + a) d false := fun d a h => num_part s p k a d h hp
  have e0 : n4 (s.extract p (p + k)) q = n4 s (p + q) := by
    have := hnp 4 q (by omega)
    rwa [show p + q = p + q by omega] at this
  have e4 : n4 (s.extract p (p + k)) (q + 4) = n4 s (p + q + 4) := by
    have := hnp 4 (q + 4) (by omega)
    rwa [show p + (q + 4) = p + q + 4 by omega] at this
  have e8 : n8 (s.extract p (p + k)) (q + 8) = n8 s (p + q + 8) := by
    have := hnp 8 (q + 8) (by omega)
    rwa [show p + (q + 8) = p + q + 8 by omega] at this
  have e16 : n8 (s.extract p (p + k)) (q + 16) = n8 s (p + q + 16) := by
    have := hnp 8 (q + 16) (by omega)
    rwa [show p + (q + 16) = p + q + 16 by omega] at this
  have e24 : n8 (s.extract p (p + k)) (q + 24) = n8 s (p + q + 24) := by
    have := hnp 8 (q + 24) (by omega)
    rwa [show p + (q + 24) = p + q + 24 by omega] at this
  have e32 : n8 (s.extract p (p + k)) (q + 32) = n8 s (p + q + 32) := by
    have := hnp 8 (q + 32) (by omega)
    rwa [show p + (q + 32) = p + q + 32 by omega] at this
  have e40 : n4 (s.extract p (p + k)) (q + 40) = n4 s (p + q + 40) := by
    have := hnp 4 (q + 40) (by omega)
    rwa [show p + (q + 40) = p + q + 40 by omega] at this
  have e44 : n4 (s.extract p (p + k)) (q + 44) = n4 s (p + q + 44) := by
    have := hnp 4 (q + 44) (by omega)
    rwa [show p + (q + 44) = p + q + 44 by omega] at this
  have e48 : n8 (s.extract p (p + k)) (q + 48) = n8 s (p + q + 48) := by
    have := hnp 8 (q + 48) (by omega)
    rwa [show p + (q + 48) = p + q + 48 by omega] at this
  have e56 : n8 (s.extract p (p + k)) (q + 56) = n8 s (p + q + 56) := by
    have := hnp 8 (q + 56) (by omega)
    rwa [show p + (q + 56) = p + q + 56 by omega] at this
  obtain ⟨T, hTT⟩ : ∃ T, s.extract p (p + k) = T := ⟨_, rfl⟩
  have hlT : T.size ≤ lim := by rw [← hTT, hT]; unfold lim; omega
  have C0 := hid (fun W (h : Rdr W g b T q) => word_any (w := W) hb hlT (by rw [← hTT]; omega) h)
  have C4 := hid (fun W (h : Rdr W g b T (q + 4)) => word_any (w := W) hb hlT (by rw [← hTT]; omega) h)
  simp only [Nat.add_assoc, Nat.reduceAdd] at C4
  have C8 := hid (fun W (h : Rdr W g b T (q + 8)) => long_any (w := W) hb hlT (by rw [← hTT]; omega) h)
  simp only [Nat.add_assoc, Nat.reduceAdd] at C8
  have C16 := hid (fun W (h : Rdr W g b T (q + 16)) => long_any (w := W) hb hlT (by rw [← hTT]; omega) h)
  simp only [Nat.add_assoc, Nat.reduceAdd] at C16
  have C24 := hid (fun W (h : Rdr W g b T (q + 24)) => amount_any (w := W) hb hlT (by rw [← hTT]; omega) h)
  simp only [Nat.add_assoc, Nat.reduceAdd] at C24
  have C32 := hid (fun W (h : Rdr W g b T (q + 32)) => amount_any (w := W) hb hlT (by rw [← hTT]; omega) h)
  simp only [Nat.add_assoc, Nat.reduceAdd] at C32
  have C40 := hid (fun W (h : Rdr W g b T (q + 40)) => word_any (w := W) hb hlT (by rw [← hTT]; omega) h)
  simp only [Nat.add_assoc, Nat.reduceAdd] at C40
  have C44 := hid (fun W (h : Rdr W g b T (q + 44)) => word_any (w := W) hb hlT (by rw [← hTT]; omega) h)
  simp only [Nat.add_assoc, Nat.reduceAdd] at C44
  have C48 := hid (fun W (h : Rdr W g b T (q + 48)) => long_any (w := W) hb hlT (by rw [← hTT]; omega) h)
  simp only [Nat.add_assoc, Nat.reduceAdd] at C48
  have C56 := hid (fun W (h : Rdr W g b T (q + 56)) => long_any (w := W) hb hlT (by rw [← hTT]; omega) h)
  simp only [Nat.add_assoc, Nat.reduceAdd] at C56
  rw [hTT] at hr hT e0 e4 e8 e16 e24 e32 e40 e44 e48 e56 ⊢
  rw [e0] at C0
  rw [e4] at C4
  rw [e8] at C8
  rw [e16] at C16
  rw [e24] at C24
  rw [e32] at C32
  rw [e40] at C40
  rw [e44] at C44
  rw [e48] at C48
  rw [e56] at C56
  have HPO := hid (fun W (h : n8 s (p + q + 24) + n8 s (p + q + 32) ≤ s.size) => part_ok s hs (n8 s (p + q + 24)) (n8 s (p + q + 32)) h W)
  have HTX := hid (fun W (h : n8 s (p + q + 24) + n8 s (p + q + 32) ≤ s.size) => text_any (n8 s (p + q + 24)) (s.extract (n8 s (p + q + 24)) (n8 s (p + q + 24) + n8 s (p + q + 32))) (by unfold lim; simp; omega) W)
  have HPB := hid (fun W (h : n8 s (p + q + 32) ≤ great) (h2 : s.size < n8 s (p + q + 24) + n8 s (p + q + 32)) => part_bad s hs (n8 s (p + q + 24)) (n8 s (p + q + 32)) (n8_lt _ _) h h2 W)
  have HGOOD := hid (fun e w' (hk : Keeps (· = g) w w') (h1 : n8 s (p + q + 24) ≤ great) (h2 : n8 s (p + q + 32) ≤ great) (h0 : ¬ n4 s (p + q + 4) = 8) (h3 : n8 s (p + q + 24) + n8 s (p + q + 32) ≤ s.size) (hr : Rdr w' g b T (q + 64)) (he : e = .returned (.agg #[.string ⟨#[]⟩, .int .i64 (n4 s (p + q + 4)), .int .u64 (n8 s (p + q + 8)), .int .u64 (n8 s (p + q + 16)), .string ⟨#[]⟩, .int .i64 (0 : Nat), .int .i64 (n4 s (p + q + 40)), .int .i64 (n4 s (p + q + 44)), .int .u64 (n8 s (p + q + 48)), .int .u64 (n8 s (p + q + 56)), .int .i64 (n4 s (p + q)), .string (s.extract (n8 s (p + q + 24)) (n8 s (p + q + 24) + n8 s (p + q + 32)))])) =>
    (show SecQ s g b T q (p + q) w e w' from ⟨hk, .inl ⟨by unfold secE; rw [if_neg (by omega), if_neg (by omega)], by unfold secV secZ secD; rw [if_neg h0, if_neg h0]; exact he, hr⟩⟩))
  have HGOOD8 := hid (fun e w' (hk : Keeps (· = g) w w') (h1 : n8 s (p + q + 24) ≤ great) (h2 : n8 s (p + q + 32) ≤ great) (h0 : n4 s (p + q + 4) = 8) (hr : Rdr w' g b T (q + 64)) (he : e = .returned (.agg #[.string ⟨#[]⟩, .int .i64 (n4 s (p + q + 4)), .int .u64 (n8 s (p + q + 8)), .int .u64 (n8 s (p + q + 16)), .string ⟨#[]⟩, .int .i64 (n8 s (p + q + 32)), .int .i64 (n4 s (p + q + 40)), .int .i64 (n4 s (p + q + 44)), .int .u64 (n8 s (p + q + 48)), .int .u64 (n8 s (p + q + 56)), .int .i64 (n4 s (p + q)), .string ⟨#[]⟩])) =>
    (show SecQ s g b T q (p + q) w e w' from ⟨hk, .inl ⟨by unfold secE; rw [if_neg (by omega), if_neg (by omega)], by unfold secV secZ secD; rw [if_pos h0, if_pos h0]; exact he, hr⟩⟩))
  have HBAD3 := hid (fun e w' (hk : Keeps (· = g) w w') (h : great < n8 s (p + q + 24) ∨ great < n8 s (p + q + 32)) (he : e = pan 3) => (show SecQ s g b T q (p + q) w e w' from ⟨hk, .inr ⟨by unfold secE; rw [if_pos h]; decide, by unfold secE; rw [if_pos h]; exact he⟩⟩))
  have HBAD2 := hid (fun e w' (hk : Keeps (· = g) w w') (h1 : n8 s (p + q + 24) ≤ great) (h2 : n8 s (p + q + 32) ≤ great) (h0 : ¬ n4 s (p + q + 4) = 8) (h : s.size < n8 s (p + q + 24) + n8 s (p + q + 32)) (he : e = pan 2) => (show SecQ s g b T q (p + q) w e w' from ⟨hk, .inr ⟨by unfold secE; rw [if_neg (by omega), if_pos ⟨h0, h⟩]; decide, by unfold secE; rw [if_neg (by omega), if_pos ⟨h0, h⟩]; exact he⟩⟩))
  clear hnp hTT e0 e4 e8 e16 e24 e32 e40 e44 e48 e56
  have l0 := n4_lt s (p + q)
  have l4 := n4_lt s (p + q + 4)
  have l24 := n8_lt s (p + q + 24)
  have l32 := n8_lt s (p + q + 32)
  have l40 := n4_lt s (p + q + 40)
  have l44 := n4_lt s (p + q + 44)
  obtain ⟨x0, hx0⟩ : ∃ x, n4 s (p + q) = x := ⟨_, rfl⟩
  rw [hx0] at C0 l0 HGOOD HGOOD8
  obtain ⟨x4, hx4⟩ : ∃ x, n4 s (p + q + 4) = x := ⟨_, rfl⟩
  rw [hx4] at C4 l4 HGOOD HGOOD8 HBAD2
  obtain ⟨x8, hx8⟩ : ∃ x, n8 s (p + q + 8) = x := ⟨_, rfl⟩
  rw [hx8] at C8 HGOOD HGOOD8
  obtain ⟨x16, hx16⟩ : ∃ x, n8 s (p + q + 16) = x := ⟨_, rfl⟩
  rw [hx16] at C16 HGOOD HGOOD8
  obtain ⟨x24, hx24⟩ : ∃ x, n8 s (p + q + 24) = x := ⟨_, rfl⟩
  rw [hx24] at C24 l24 HGOOD HPO HTX HPB HGOOD8 HBAD3 HBAD2
  obtain ⟨x32, hx32⟩ : ∃ x, n8 s (p + q + 32) = x := ⟨_, rfl⟩
  rw [hx32] at C32 l32 HGOOD HPO HTX HPB HGOOD8 HBAD3 HBAD2
  obtain ⟨x40, hx40⟩ : ∃ x, n4 s (p + q + 40) = x := ⟨_, rfl⟩
  rw [hx40] at C40 l40 HGOOD HGOOD8
  obtain ⟨x44, hx44⟩ : ∃ x, n4 s (p + q + 44) = x := ⟨_, rfl⟩
  rw [hx44] at C44 l44 HGOOD HGOOD8
  obtain ⟨x48, hx48⟩ : ∃ x, n8 s (p + q + 48) = x := ⟨_, rfl⟩
  rw [hx48] at C48 HGOOD HGOOD8
  obtain ⟨x56, hx56⟩ : ∃ x, n8 s (p + q + 56) = x := ⟨_, rfl⟩
  rw [hx56] at C56 HGOOD HGOOD8
  clear hx0 hx4 hx8 hx16 hx24 hx32 hx40 hx44 hx48 hx56
  obtain ⟨D, hD⟩ : ∃ D, s.extract x24 (x24 + x32) = D := ⟨_, rfl⟩
  rw [hD] at HPO HTX HGOOD
  clear hD
  have HR := hid hr
  have HF := hid (Has.new w 49 #[.int .i64 0, .string s])
  obtain ⟨fb, hfb⟩ : ∃ fb, w.heap.size = fb := ⟨_, rfl⟩
  have HFB := hid hfb
  rw [hfb] at HF
  have HG := hid (show g < fb by rw [← hfb]; exact Has.lt hr)
  have HB0 := hid ((((Bw.refl w).alloc (.cells #[.int .i64 0, .string s] 49)).alloc (.cells #[.string ⟨#[]⟩, .int .i64 0, .int .u64 0, .int .u64 0, .string ⟨#[]⟩, .int .i64 0, .int .i64 0, .int .i64 0, .int .u64 0, .int .u64 0, .int .i64 0, .string ⟨#[]⟩] 95)).alloc (.cells #[.string ⟨#[]⟩, .int .i64 0, .int .u64 0, .int .u64 0, .string ⟨#[]⟩, .int .i64 0, .int .i64 0, .int .i64 0, .int .u64 0, .int .u64 0, .int .i64 0, .string ⟨#[]⟩] 95))
  have HZ1 := hid (show Has ((w.alloc (.cells #[.int .i64 0, .string s] 49)).alloc (.cells #[.string ⟨#[]⟩, .int .i64 0, .int .u64 0, .int .u64 0, .string ⟨#[]⟩, .int .i64 0, .int .i64 0, .int .i64 0, .int .u64 0, .int .u64 0, .int .i64 0, .string ⟨#[]⟩] 95)) (fb + 1) 95 #[.string ⟨#[]⟩, .int .i64 0, .int .u64 0, .int .u64 0, .string ⟨#[]⟩, .int .i64 0, .int .i64 0, .int .i64 0, .int .u64 0, .int .u64 0, .int .i64 0, .string ⟨#[]⟩] from by
    have := Has.new (w.alloc (.cells #[.int .i64 0, .string s] 49)) 95 #[.string ⟨#[]⟩, .int .i64 0, .int .u64 0, .int .u64 0, .string ⟨#[]⟩, .int .i64 0, .int .i64 0, .int .i64 0, .int .u64 0, .int .u64 0, .int .i64 0, .string ⟨#[]⟩]
    rw [World.size_alloc, hfb] at this
    exact this)
  have HZ2 := hid (show Has (((w.alloc (.cells #[.int .i64 0, .string s] 49)).alloc (.cells #[.string ⟨#[]⟩, .int .i64 0, .int .u64 0, .int .u64 0, .string ⟨#[]⟩, .int .i64 0, .int .i64 0, .int .i64 0, .int .u64 0, .int .u64 0, .int .i64 0, .string ⟨#[]⟩] 95)).alloc (.cells #[.string ⟨#[]⟩, .int .i64 0, .int .u64 0, .int .u64 0, .string ⟨#[]⟩, .int .i64 0, .int .i64 0, .int .i64 0, .int .u64 0, .int .u64 0, .int .i64 0, .string ⟨#[]⟩] 95)) (fb + 1 + 1) 95 #[.string ⟨#[]⟩, .int .i64 0, .int .u64 0, .int .u64 0, .string ⟨#[]⟩, .int .i64 0, .int .i64 0, .int .i64 0, .int .u64 0, .int .u64 0, .int .i64 0, .string ⟨#[]⟩] from by
    have := Has.new ((w.alloc (.cells #[.int .i64 0, .string s] 49)).alloc (.cells #[.string ⟨#[]⟩, .int .i64 0, .int .u64 0, .int .u64 0, .string ⟨#[]⟩, .int .i64 0, .int .i64 0, .int .i64 0, .int .u64 0, .int .u64 0, .int .i64 0, .string ⟨#[]⟩] 95)) 95 #[.string ⟨#[]⟩, .int .i64 0, .int .u64 0, .int .u64 0, .string ⟨#[]⟩, .int .i64 0, .int .i64 0, .int .i64 0, .int .u64 0, .int .u64 0, .int .i64 0, .string ⟨#[]⟩]
    rw [World.size_alloc, World.size_alloc, hfb] at this
    exact this)
  have H1 := hid (show SecW w g b fb (fb + 1) (fb + 1 + 1) s T q #[.string ⟨#[]⟩, .int .i64 0, .int .u64 0, .int .u64 0, .string ⟨#[]⟩, .int .i64 0, .int .i64 0, .int .i64 0, .int .u64 0, .int .u64 0, .int .i64 0, .string ⟨#[]⟩] _ from
    ⟨.of_bw HB0.out, HB0.out.has hr, (HF.out.alloc _).alloc _, HZ1.out.alloc _, HZ2.out, by have := HG.out; omega, by have := HG.out; omega, by have := HG.out; omega, by omega, by omega, by omega, by omega⟩)
  clear hr HF HB0 HZ1 HZ2 HR
  go_enter Try.func79, Try.ntmps79
  go_wp2_with fail
  generalize ((w.alloc (.cells #[.int .i64 0, .string s] 49)).alloc _).alloc _ = w1 at *
  clear hfb
  refine (C0.out _ H1.out.rd).mono ?_
  rintro e w2 ⟨rfl, h1, h2⟩
  have H2 := hid (H1.out.step h1 h2)
  clear h1 h2 H1 C0
  go_wp2_with fail
  refine (C4.out _ H2.out.rd).mono ?_
  rintro e w3 ⟨rfl, h1, h2⟩
  have H3 := hid (H2.out.step h1 h2)
  clear h1 h2 H2 C4
  go_wp2_with fail
  refine (C8.out _ H3.out.rd).mono ?_
  rintro e w4 ⟨rfl, h1, h2⟩
  have H4 := hid (H3.out.step h1 h2)
  clear h1 h2 H3 C8
  go_wp2_with fail
  refine (C16.out _ H4.out.rd).mono ?_
  rintro e w5 ⟨rfl, h1, h2⟩
  have H5 := hid (H4.out.step h1 h2)
  clear h1 h2 H4 C16
  have c10 := H5.out.xs.cell 10
  have f10 := H5.out.xs.frozen 10
  have c1 := H5.out.xs.cell 1
  have f1 := H5.out.xs.frozen 1
  have c2 := H5.out.xs.cell 2
  have f2 := H5.out.xs.frozen 2
  have c3 := H5.out.xs.cell 3
  have f3 := H5.out.xs.frozen 3
  simp only [List.getElem?_toArray, List.getElem?_cons_zero, List.getElem?_cons_succ] at c10 c1 c2 c3
  have H6 := hid ((((H5.out.put 10 (.int .i64 x0)).put 1 (.int .i64 x4)).put 2 (.int .u64 x8)).put 3 (.int .u64 x16))
  simp only [List.setIfInBounds_toArray, List.set_cons_zero, List.set_cons_succ] at H6
  go_wp2_with fail
  generalize World.setCell (World.setCell (World.setCell (World.setCell w5 _ _) _ _) _ _) _ _ = w6 at *
  clear H5 c10 f10 c1 f1 c2 f2 c3 f3
  refine (C24.out _ H6.out.rd).mono ?_
  rintro e w7 ⟨h2, h1, hx⟩
  have H7 := hid (H6.out.step h1 h2)
  clear h1 h2 H6 C24
  rcases hx with ⟨hg24, rfl⟩ | ⟨hg24, rfl⟩
  case inr => exact ⟨rfl, HBAD3.out _ _ H7.out.ke (.inl hg24) rfl⟩
  have HG24 := hid hg24
  clear hg24
  go_wp2_with fail
  refine (C32.out _ H7.out.rd).mono ?_
  rintro e w8 ⟨h2, h1, hx⟩
  have H8 := hid (H7.out.step h1 h2)
  clear h1 h2 H7 C32
  rcases hx with ⟨hg32, rfl⟩ | ⟨hg32, rfl⟩
  case inr => exact ⟨rfl, HBAD3.out _ _ H8.out.ke (.inr hg32) rfl⟩
  have HG32 := hid hg32
  clear hg32
  go_wp2_with fail
  refine (C40.out _ H8.out.rd).mono ?_
  rintro e w9 ⟨rfl, h1, h2⟩
  have H9 := hid (H8.out.step h1 h2)
  clear h1 h2 H8 C40
  go_wp2_with fail
  refine (C44.out _ H9.out.rd).mono ?_
  rintro e w10 ⟨rfl, h1, h2⟩
  have H10 := hid (H9.out.step h1 h2)
  clear h1 h2 H9 C44
  go_wp2_with fail
  refine (C48.out _ H10.out.rd).mono ?_
  rintro e w11 ⟨rfl, h1, h2⟩
  have H11 := hid (H10.out.step h1 h2)
  clear h1 h2 H10 C48
  go_wp2_with fail
  refine (C56.out _ H11.out.rd).mono ?_
  rintro e w12 ⟨rfl, h1, h2⟩
  have H12 := hid (H11.out.step h1 h2)
  clear h1 h2 H11 C56
  have c6 := H12.out.xs.cell 6
  have f6 := H12.out.xs.frozen 6
  have c7 := H12.out.xs.cell 7
  have f7 := H12.out.xs.frozen 7
  have c8 := H12.out.xs.cell 8
  have f8 := H12.out.xs.frozen 8
  have c9 := H12.out.xs.cell 9
  have f9 := H12.out.xs.frozen 9
  simp only [List.getElem?_toArray, List.getElem?_cons_zero, List.getElem?_cons_succ] at c6 c7 c8 c9
  have H13 := hid ((((H12.out.put 6 (.int .i64 x40)).put 7 (.int .i64 x44)).put 8 (.int .u64 x48)).put 9 (.int .u64 x56))
  simp only [List.setIfInBounds_toArray, List.set_cons_zero, List.set_cons_succ] at H13
  go_upto_region 5 with fail
  generalize World.setCell (World.setCell (World.setCell (World.setCell w12 _ _) _ _) _ _) _ _ = w13 at *
  clear H12 c6 f6 c7 f7 c8 f8 c9 f9
  have c1 : w13.cell? ⟨fb + 1 + 1, 1, none⟩ = some (.int .i64 x4) := H13.out.xs.cell 1
  by_cases h8 : x4 = 8
  · have H8 := hid h8
    have t8 : ((x4 : Int) == 8) = true := beq_iff_eq.2 (by omega)
    have c5 : w13.cell? ⟨fb + 1 + 1, 5, none⟩ = some (.int .i64 0) := H13.out.xs.cell 5
    have f5 := H13.out.xs.frozen 5
    have H14 := hid (H13.out.put 5 (.int .i64 x32))
    simp only [List.setIfInBounds_toArray, List.set_cons_zero, List.set_cons_succ] at H14
    clear h8
    go_upto_region 7 with fail
    generalize World.setCell w13 _ _ = w14 at *
    clear c1 c5 f5 H13 t8
    have HPN := hid (H14.out.rs.set [.string ⟨#[]⟩, .int .i64 x4, .int .u64 x8, .int .u64 x16, .string ⟨#[]⟩, .int .i64 x32, .int .i64 x40, .int .i64 x44, .int .u64 x48, .int .u64 x56, .int .i64 x0, .string ⟨#[]⟩] rfl)
    have HKN := hid (H14.out.ke.set H14.out.l2 [.string ⟨#[]⟩, .int .i64 x4, .int .u64 x8, .int .u64 x16, .string ⟨#[]⟩, .int .i64 x32, .int .i64 x40, .int .i64 x44, .int .u64 x48, .int .u64 x56, .int .i64 x0, .string ⟨#[]⟩])
    have HRN := hid (show Rdr _ g b T (q + 64) from Has.set_far H14.out.rd H14.out.n2.symm [.string ⟨#[]⟩, .int .i64 x4, .int .u64 x8, .int .u64 x16, .string ⟨#[]⟩, .int .i64 x32, .int .i64 x40, .int .i64 x44, .int .u64 x48, .int .u64 x56, .int .i64 x0, .string ⟨#[]⟩])
    refine wp_region_list ?_
    refine wpList_load_mid rfl 95 (.tmp 5) rfl (fb + 1 + 1) 0 rfl [.string ⟨#[]⟩, .int .i64 x4, .int .u64 x8, .int .u64 x16, .string ⟨#[]⟩, .int .i64 x32, .int .i64 x40, .int .i64 x44, .int .u64 x48, .int .u64 x56, .int .i64 x0, .string ⟨#[]⟩] _ H14.out.xs.range Try.underlying95 rfl inf_section ?_
    simp only [Act.put, List.setIfInBounds_toArray, List.set_cons_zero, List.set_cons_succ]
    refine wpList_store_mid rfl 95 (.tmp 4) (.tmp 50) rfl (fb + 1) 0 #[.string ⟨#[]⟩, .int .i64 x4, .int .u64 x8, .int .u64 x16, .string ⟨#[]⟩, .int .i64 x32, .int .i64 x40, .int .i64 x44, .int .u64 x48, .int .u64 x56, .int .i64 x0, .string ⟨#[]⟩] rfl rfl (H14.out.rs.there 12 (Nat.le_refl _)) inf_section (by simp only [List.all_toArray, List.all_cons, List.all_nil]; rfl) ?_
    generalize World.setCells w14 _ _ _ = wz at *
    go_wp2_with fail
    have p0 := HPN.out.cell 0
    have p1 := HPN.out.cell 1
    have p2 := HPN.out.cell 2
    have p3 := HPN.out.cell 3
    have p4 := HPN.out.cell 4
    have p5 := HPN.out.cell 5
    have p6 := HPN.out.cell 6
    have p7 := HPN.out.cell 7
    have p8 := HPN.out.cell 8
    have p9 := HPN.out.cell 9
    have p10 := HPN.out.cell 10
    have p11 := HPN.out.cell 11
    simp only [List.getElem?_toArray, List.getElem?_cons_zero, List.getElem?_cons_succ] at p0 p1 p2 p3 p4 p5 p6 p7 p8 p9 p10 p11
    refine bodyPost_ret (by simp [results, Try.results79, go_sem, p0, p1, p2, p3, p4, p5, p6, p7, p8, p9, p10, p11]; try rfl) rfl ?_
    exact HGOOD8.out _ _ HKN.out HG24.out HG32.out H8.out HRN.out rfl
  · have t8 : ((x4 : Int) == 8) = false := beq_eq_false_iff_ne.2 (by omega)
    have H8 := hid h8
    have fc0 : w13.cell? ⟨fb, 0, none⟩ = some (.int .i64 0) := H13.out.fi.cell 0
    have fc1 : w13.cell? ⟨fb, 1, none⟩ = some (.string s) := H13.out.fi.cell 1
    have v1 : IntKind.u64.wrap (x24 : Int) = x24 := IntWalk.u64_in _ (by have := HG24.out; unfold great at this; omega)
    go_wp2_with fail
    clear c1 fc0 fc1 t8 h8
    by_cases hc : x24 + x32 ≤ s.size
    case neg =>
      refine (HPB.out w13 (by have := HG32.out; exact this) (by omega)).mono ?_
      rintro e wy ⟨rfl, hby⟩
      exact ⟨rfl, HBAD2.out _ _ (H13.out.ke.trans (.of_bw hby)) HG24.out HG32.out H8.out (by omega) rfl⟩
    have HC := hid hc
    refine (HPO.out w13 hc).mono ?_
    rintro e wy ⟨g2, rfl, hrd, -, hby⟩
    have H14 := hid (H13.out.bw hby)
    have r0 : wy.cell? ⟨g2, 0, none⟩ = some (.int .i64 x24) := hrd.cell 0
    have r1 : wy.cell? ⟨g2, 1, none⟩ = some (.string D) := hrd.cell 1
    have HTX := hid (fun W => HTX.out W hc)
    clear hrd hby hc H13
    go_wp2_with fail
    refine (HTX.out _).mono ?_
    rintro e w15 ⟨rfl, hbz⟩
    have H15 := hid (H14.out.bw hbz)
    have c11 : w15.cell? ⟨fb + 1 + 1, 11, none⟩ = some (.string ⟨#[]⟩) := H15.out.xs.cell 11
    have f11 := H15.out.xs.frozen 11
    have H16 := hid (H15.out.put 11 (.string D))
    simp only [List.setIfInBounds_toArray, List.set_cons_zero, List.set_cons_succ] at H16
    clear hbz r0 r1 H14 HTX
    go_upto_region 9 with fail
    generalize World.setCell w15 _ _ = w16 at *
    clear c11 f11 H15
    have HPN := hid (H16.out.rs.set [.string ⟨#[]⟩, .int .i64 x4, .int .u64 x8, .int .u64 x16, .string ⟨#[]⟩, .int .i64 0, .int .i64 x40, .int .i64 x44, .int .u64 x48, .int .u64 x56, .int .i64 x0, .string D] rfl)
    have HKN := hid (H16.out.ke.set H16.out.l2 [.string ⟨#[]⟩, .int .i64 x4, .int .u64 x8, .int .u64 x16, .string ⟨#[]⟩, .int .i64 0, .int .i64 x40, .int .i64 x44, .int .u64 x48, .int .u64 x56, .int .i64 x0, .string D])
    have HRN := hid (show Rdr _ g b T (q + 64) from Has.set_far H16.out.rd H16.out.n2.symm [.string ⟨#[]⟩, .int .i64 x4, .int .u64 x8, .int .u64 x16, .string ⟨#[]⟩, .int .i64 0, .int .i64 x40, .int .i64 x44, .int .u64 x48, .int .u64 x56, .int .i64 x0, .string D])
    refine wp_region_list ?_
    refine wpList_load_mid rfl 95 (.tmp 5) rfl (fb + 1 + 1) 0 rfl [.string ⟨#[]⟩, .int .i64 x4, .int .u64 x8, .int .u64 x16, .string ⟨#[]⟩, .int .i64 0, .int .i64 x40, .int .i64 x44, .int .u64 x48, .int .u64 x56, .int .i64 x0, .string D] _ H16.out.xs.range Try.underlying95 rfl inf_section ?_
    simp only [Act.put, List.setIfInBounds_toArray, List.set_cons_zero, List.set_cons_succ]
    refine wpList_store_mid rfl 95 (.tmp 4) (.tmp 61) rfl (fb + 1) 0 #[.string ⟨#[]⟩, .int .i64 x4, .int .u64 x8, .int .u64 x16, .string ⟨#[]⟩, .int .i64 0, .int .i64 x40, .int .i64 x44, .int .u64 x48, .int .u64 x56, .int .i64 x0, .string D] rfl rfl (H16.out.rs.there 12 (Nat.le_refl _)) inf_section (by simp only [List.all_toArray, List.all_cons, List.all_nil]; rfl) ?_
    generalize World.setCells w16 _ _ _ = wz at *
    go_wp2_with fail
    have p0 := HPN.out.cell 0
    have p1 := HPN.out.cell 1
    have p2 := HPN.out.cell 2
    have p3 := HPN.out.cell 3
    have p4 := HPN.out.cell 4
    have p5 := HPN.out.cell 5
    have p6 := HPN.out.cell 6
    have p7 := HPN.out.cell 7
    have p8 := HPN.out.cell 8
    have p9 := HPN.out.cell 9
    have p10 := HPN.out.cell 10
    have p11 := HPN.out.cell 11
    simp only [List.getElem?_toArray, List.getElem?_cons_zero, List.getElem?_cons_succ] at p0 p1 p2 p3 p4 p5 p6 p7 p8 p9 p10 p11
    refine bodyPost_ret (by simp [results, Try.results79, go_sem, p0, p1, p2, p3, p4, p5, p6, p7, p8, p9, p10, p11]; try rfl) rfl ?_
    exact HGOOD.out _ _ HKN.out HG24.out HG32.out H8.out HC.out HRN.out rfl
end Go.Proofs.Ytciaebhkemdilaa

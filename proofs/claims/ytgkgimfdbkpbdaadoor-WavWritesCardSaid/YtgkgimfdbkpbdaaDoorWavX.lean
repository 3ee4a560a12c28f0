/- Read, and whether sounds are the same (contracts of the functions). -/
import Derived.Test.YtgkgimfdbkpbdaaDoorWavR
namespace Go.Proofs.YtgkgimfdbkpbdaaDoor
open Go.RowKit
set_option linter.unusedVariables false
set_option linter.unusedSimpArgs false
theorem zero_no {o : Nat} {s u : ByteArray} (h0 : (#[.int .i64 0, .int .i64 0, .int .i64 0, .string ⟨#[]⟩, .slice none 0 0] : Array Value)[o]? = some (.string s)) (h1 : (#[.int .i64 0, .int .i64 0, .int .i64 0, .string ⟨#[]⟩, .slice none 0 0] : Array Value)[o + 1]? = some (.string u)) : False := by
  match o, h0, h1 with
  | 0, h0, _ => cases h0
  | 1, h0, _ => cases h0
  | 2, h0, _ => cases h0
  | 3, _, h1 => cases h1
  | 4, h0, _ => cases h0
  | q + 5, h0, _ => simp at h0
theorem chk_farW {w4 W : World} {na : Nat} {a : Option Addr} {l : List ChkR} (h : ChkAt w4 a l) (hx : Has w4 na 34 #[.int .i64 0, .int .i64 0, .int .i64 0, .string ⟨#[]⟩, .slice none 0 0]) (hz : W.heap.size = w4.heap.size) (hb : ∀ b, b ≠ na → W.heap[b]? = w4.heap[b]?) : ChkAt W a l := fun j hj => by
  obtain ⟨b, off, e, hl, k0, k1, hk⟩ := h j hj
  have hne : b ≠ na := fun hb => by
    rw [hb, hx.cell] at k0 k1
    exact zero_no k0 k1
  exact ⟨b, off, e, by rw [hz]; exact hl, (World.cell?_of_block (hb b hne)).trans k0, (World.cell?_of_block (hb b hne)).trans k1, hk⟩
def set5 (w4 : World) (na : Nat) (v0 v1 v2 v3 v4 : Value) : World := ((((w4.setCell ⟨na, 0, none⟩ v0).setCell ⟨na, 1, none⟩ v1).setCell ⟨na, 2, none⟩ v2).setCell ⟨na, 3, none⟩ v3).setCell ⟨na, 4, none⟩ v4
theorem set5_size (w4 : World) (na : Nat) (v0 v1 v2 v3 v4 : Value) : (set5 w4 na v0 v1 v2 v3 v4).heap.size = w4.heap.size := by unfold set5; simp only [World.setCell, Array.size_modify]
theorem set5_far (w4 : World) (na : Nat) (v0 v1 v2 v3 v4 : Value) (b : Nat) (h : b ≠ na) : (set5 w4 na v0 v1 v2 v3 v4).heap[b]? = w4.heap[b]? := by
  unfold set5
  rw [Below.heap_setCell _ ⟨na, 4, none⟩ _ b h, Below.heap_setCell _ ⟨na, 3, none⟩ _ b h, Below.heap_setCell _ ⟨na, 2, none⟩ _ b h, Below.heap_setCell _ ⟨na, 1, none⟩ _ b h, Below.heap_setCell _ ⟨na, 0, none⟩ _ b h]
set_option maxRecDepth 100000 in
set_option maxHeartbeats 8000000 in
theorem read_any (s : ByteArray) (hs : s.size ≤ 100000000) (m : SndR) (l : List ChkR) (pf pd : Nat) (hsp : splitP s = (waveT, l, 0)) (hY : Lay m l pf pd) (hm : soundB m = true) (hfz : m.frames.size ≤ 100000) (hln : l.length ≤ 1000) (w : World) (hw : WidAt w) :
    Calls Tryd.prog 18 #[.string s] w fun e w' => ∃ a c, e = .returned (.tuple #[sndV m a m.more.length c, .int .i64 0]) ∧ Bw w w' ∧ ChkAt w' a m.more := by
  have HSP := hid (fun W => (split_any s hs W).mono (fun e W' h => (show ∃ a c, e = .returned (.tuple #[.string ⟨#[87, 65, 86, 69]⟩, .slice a l.length c, .int .i64 0]) ∧ Bw W W' ∧ ChkAt W' a l from by
    obtain ⟨a, c, h1, h2, h3⟩ := h
    rw [hsp] at h1 h3
    exact ⟨a, c, h1, h2, h3⟩)))
  have HSO := hid (fun a c W (ha : ChkAt W a l) (hW : WidAt W) => soundOf_any m l pf pd hY hm hfz hln a l.length c (hid rfl) W ha hW)
  have HWD := hid hw
  unfold sndV at HSO ⊢
  obtain ⟨ch, rate, bits, fr, mo⟩ := m
  simp only at HSO ⊢
  have hlq : l.length ≤ 1000 := hln
  obtain ⟨ln, hlnn⟩ : ∃ ln, l.length = ln := ⟨_, rfl⟩
  rw [hlnn] at HSP HSO hlq
  clear hw hsp hY hm hln hlnn
  have HA1 := hid ((Bw.refl w).alloc (.cells #[.int .i64 0, .int .i64 0, .int .i64 0, .string ⟨#[]⟩, .slice none 0 0] 34))
  have HX1 := hid (Has.new w 34 #[.int .i64 0, .int .i64 0, .int .i64 0, .string ⟨#[]⟩, .slice none 0 0])
  obtain ⟨na, hna⟩ : ∃ na, w.heap.size = na := ⟨_, rfl⟩
  have HNA := hid hna
  rw [hna] at HX1
  go_enter Tryd.func18, Tryd.ntmps18
  go_wp2_with fail
  generalize w.alloc (.cells #[.int .i64 0, .int .i64 0, .int .i64 0, .string ⟨#[]⟩, .slice none 0 0] 34) = w1 at *
  clear hna
  refine (HSP.out _).mono ?_
  rintro e w2 ⟨a, c, rfl, hb2, ha2⟩
  have HB2 := hid (HA1.out.trans hb2)
  have HX2 := hid (hb2.has HX1.out)
  have HC2 := hid ha2
  clear hb2 ha2 HA1 HX1 HSP
  go_wp2_with fail
  refine (HSO.out a c _ HC2.out (HWD.out.bw HB2.out)).mono ?_
  rintro e w3 ⟨a3, c3, rfl, hb3, ha3⟩
  have HB3 := hid (HB2.out.trans hb3)
  have HX3 := hid (hb3.has HX2.out)
  have HC3 := hid ha3
  clear hb3 ha3 HB2 HX2 HC2 HSO
  have HAL := hid ((Bw.refl w3).alloc (.cells #[.int .i64 ch, .int .i64 rate, .int .i64 bits, .string fr, .slice a3 mo.length c3] 34))
  have HB4 := hid (HB3.out.trans HAL.out)
  have HX4 := hid (HAL.out.has HX3.out)
  have HC4 := hid (HC3.out.below HAL.out)
  have HS4 := hid (Has.new w3 34 #[.int .i64 ch, .int .i64 rate, .int .i64 bits, .string fr, .slice a3 mo.length c3])
  obtain ⟨gx, hgx⟩ : ∃ gx, w3.heap.size = gx := ⟨_, rfl⟩
  rw [hgx] at HS4
  go_upto_region 5 with fail
  generalize w3.alloc (.cells #[.int .i64 ch, .int .i64 rate, .int .i64 bits, .string fr, .slice a3 mo.length c3] 34) = w4 at *
  clear hgx
  obtain ⟨x0, x1, x2, x3, x4⟩ := HS4.out.five
  obtain ⟨z0, z1, z2, z3, z4⟩ := HX4.out.five
  have f0 := HX4.out.frozen 0
  have f1 := HX4.out.frozen 1
  have f2 := HX4.out.frozen 2
  have f3 := HX4.out.frozen 3
  have f4 := HX4.out.frozen 4
  have HZ := hid (((((HX4.out.put 0 (.int .i64 ch)).put 1 (.int .i64 rate)).put 2 (.int .i64 bits)).put 3 (.string fr)).put 4 (.slice a3 mo.length c3))
  have hs2 : ∀ (V : World) (i : Nat) (u : Value), Bw w V → Bw w (V.setCell ⟨na, i, none⟩ u) := fun V i u hV => Below.setCell (p := ⟨na, i, none⟩) hV (by have := HNA.out; show w.heap.size ≤ na; omega) u
  have HBZ := hid (hs2 _ 4 (.slice a3 mo.length c3) (hs2 _ 3 (.string fr) (hs2 _ 2 (.int .i64 bits) (hs2 _ 1 (.int .i64 rate) (hs2 _ 0 (.int .i64 ch) HB4.out)))))
  have HCZ := hid (chk_farW (W := set5 w4 na (.int .i64 ch) (.int .i64 rate) (.int .i64 bits) (.string fr) (.slice a3 mo.length c3)) HC4.out HX4.out (set5_size _ _ _ _ _ _ _) (set5_far _ _ _ _ _ _ _))
  unfold set5 at HCZ
  clear hs2
  go_wp2
  generalize World.setCell (World.setCell (World.setCell (World.setCell (World.setCell w4 _ _) _ _) _ _) _ _) _ _ = wz at *
  have y0 : wz.cell? ⟨na, 0, none⟩ = some (.int .i64 ch) := (HZ.out.cell 0).trans rfl
  have y1 : wz.cell? ⟨na, 1, none⟩ = some (.int .i64 rate) := (HZ.out.cell 1).trans rfl
  have y2 : wz.cell? ⟨na, 2, none⟩ = some (.int .i64 bits) := (HZ.out.cell 2).trans rfl
  have y3 : wz.cell? ⟨na, 3, none⟩ = some (.string fr) := (HZ.out.cell 3).trans rfl
  have y4 : wz.cell? ⟨na, 4, none⟩ = some (.slice a3 mo.length c3) := (HZ.out.cell 4).trans rfl
  refine bodyPost_ret (by simp [results, Tryd.results18, go_sem, y0, y1, y2, y3, y4]; try rfl) rfl ?_
  exact ⟨a3, c3, rfl, HBZ.out, HCZ.out⟩
set_option maxRecDepth 100000 in
set_option maxHeartbeats 8000000 in
/-- The same sounds are the same. -/
theorem sameS_eq (m : SndR) (a b : Option Addr) (n c d : Nat) (hn : m.more.length = n) (hn9 : n ≤ 1000000) (w : World) (ha : ChkAt w a m.more) (hb : ChkAt w b m.more) :
    Calls Tryd.prog 19 #[sndV m a n c, sndV m b n d] w fun e w' => e = .returned (.bool true) ∧ Bw w w' := by
  unfold sndV
  obtain ⟨ch, rate, bits, fr, mo⟩ := m
  simp only at hn ha hb ⊢
  have HA := hid ha
  have HB := hid hb
  have HN := hid hn
  clear ha hb hn
  have HX2 := hid ((Has.new w 34 #[.int .i64 ch, .int .i64 rate, .int .i64 bits, .string fr, .slice a n c]).alloc (.cells #[.int .i64 ch, .int .i64 rate, .int .i64 bits, .string fr, .slice b n d] 34))
  have HX3 := hid (Has.new (w.alloc (.cells #[.int .i64 ch, .int .i64 rate, .int .i64 bits, .string fr, .slice a n c] 34)) 34 #[.int .i64 ch, .int .i64 rate, .int .i64 bits, .string fr, .slice b n d])
  simp only [World.size_alloc] at HX3
  have HW := hid (((Bw.refl w).alloc (.cells #[.int .i64 ch, .int .i64 rate, .int .i64 bits, .string fr, .slice a n c] 34)).alloc (.cells #[.int .i64 ch, .int .i64 rate, .int .i64 bits, .string fr, .slice b n d] 34))
  obtain ⟨g, hg⟩ : ∃ g, w.heap.size = g := ⟨_, rfl⟩
  rw [hg] at HX2 HX3
  go_enter Tryd.func19, Tryd.ntmps19
  go_upto_region 1 with fail
  generalize (w.alloc (.cells #[.int .i64 ch, .int .i64 rate, .int .i64 bits, .string fr, .slice a n c] 34)).alloc (.cells #[.int .i64 ch, .int .i64 rate, .int .i64 bits, .string fr, .slice b n d] 34) = w1 at *
  obtain ⟨x0, x1, x2, x3, x4⟩ := HX2.out.five
  obtain ⟨y0, y1, y2, y3, y4⟩ := HX3.out.five
  go_wp2
  clear x0 x1 x2 x3 x4 y0 y1 y2 y3 y4
  go_loopw [5] (fun vi wr => ∃ k : Nat, k ≤ n ∧ vi = .int .i64 k ∧ Bw w1 wr) (fun vi _ => n - (intOf vi).toNat)
  case atStart => exact ⟨0, Nat.zero_le _, rfl, Bw.refl _⟩
  case round =>
    rename World => wr
    obtain ⟨k, hk, rfl, hw⟩ := hrel
    have HK := hid hw
    have x4 : wr.cell? ⟨g, 4, none⟩ = some (.slice a n c) := (hw.has HX2.out).cell 4
    have y4 : wr.cell? ⟨g + 1, 4, none⟩ = some (.slice b n d) := (hw.has HX3.out).cell 4
    by_cases hlt : k < n
    · have hk1 : (k : Int) < n := by omega
      obtain ⟨b1, o1, rfl, hb1, p0, p1, _⟩ := HA.out.below (HW.out.trans hw) k (by rw [HN.out]; exact hlt)
      obtain ⟨b2, o2, rfl, hb2, q0, q1, _⟩ := HB.out.below (HW.out.trans hw) k (by rw [HN.out]; exact hlt)
      clear hw
      have hkl : k < mo.length := by rw [HN.out]; exact hlt
      obtain ⟨x, hx⟩ : ∃ x, mo[k]'hkl = x := ⟨_, rfl⟩
      rw [hx] at p0 p1 q0 q1
      clear hx
      go_wp2_with fail
      go_quiet (fail)
      go_wp2
      exact ⟨⟨k + 1, by omega, by go_num, HK.out.drewN _⟩, by simp [intOf]; omega⟩
    · obtain rfl : k = n := by omega
      go_wp2
      go_returns
      exact ⟨rfl, HW.out.trans hw⟩
end Go.Proofs.YtgkgimfdbkpbdaaDoor

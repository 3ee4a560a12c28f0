/- ExpRenamed returns true for every list of expressions, every index and all names, and changes nothing that was there; no condition but that the listed variables hold what the program's text lays. -/
import Derived.Test.YtlilmidffcmkjabDoorExpTb
import Derived.Test.YtlilmidffcmkjabDoorLawKit
import Derived.ShutString
import Derived.ChangeOld
import Derived.SizedLaws
import Derived.Deep.RegionWith
import Derived.Test.YtlilmidffcmkjabDoorExpN
import Derived.Maps.AppendAt
namespace Go.Proofs.YtlilmidffcmkjabDoor.expRenamed
open Go.ChangeShapes Go.WideShapes Go.ChangeAt Go.WideMaps Go.WideElems Go.RowKit
open Go.ChangeMaps (open_string shut_string)
set_option linter.unusedVariables false
set_option maxRecDepth 100000 in
set_option maxHeartbeats 8000000 in
theorem rn_eval (l : List ExpR) (i : Int) (names : List BindR) (hl : ∀ x ∈ l, x.name ≠ nmF) (hn : ∀ b ∈ names, b.name ≠ nmF) : evalX (l.map rnX) i (names.map rnB) = evalX l i names := by
  unfold evalX idxE
  rw [check_rn, List.length_map, wrt_rn hl hn]
theorem nm_eq {a : ByteArray} {b : List UInt8} (h : a ≠ ⟨b.toArray⟩) : (a.toList == b) = false := by
  have h2 := str_ne h
  rw [toList_data ⟨b.toArray⟩] at h2
  exact h2
theorem rnW_no {a : ByteArray} (h : a ≠ ⟨#[110]⟩) : rnW a = a := if_neg h
theorem rnW_size {a : ByteArray} (h : a.size ≤ 9223372036854775807) : (rnW a).size ≤ 9223372036854775807 := by
  unfold rnW
  split
  · show nmF.size ≤ _; decide
  · exact h
theorem ok_rnX {x : ExpR} (h : x.Ok) : (rnX x).Ok := ⟨h.1, rnW_size h.2.1, h.2.2.1, h.2.2.2.1, h.2.2.2.2⟩
theorem ok_rnB {x : BindR} (h : x.Ok) : (rnB x).Ok := ⟨rnW_size h.1, h.2⟩
theorem ok_exp {w : World} {a : Option Addr} {l : List ExpR} (h : ExpAt w a l) : ∀ x ∈ l, x.Ok := fun x hx => by
  obtain ⟨i, hi, rfl⟩ := List.getElem_of_mem hx
  obtain ⟨_, _, _, _, _, _, _, _, _, hk⟩ := h i hi
  exact hk
theorem ok_bnd {w : World} {a : Option Addr} {l : List BindR} (h : BndAt w a l) : ∀ x ∈ l, x.Ok := fun x hx => by
  obtain ⟨i, hi, rfl⟩ := List.getElem_of_mem hx
  obtain ⟨_, _, _, _, _, _, hk⟩ := h i hi
  exact hk
/-- The list so far: its elements, renamed. -/
structure RowE (B : Nat) (wr : World) (vo : Value) (k : Nat) (l : List ExpR) : Prop where
  own : wr.ownsRow B 27 5 vo k (expCells ((l.take k).map rnX))
  no : ∀ x ∈ l.take k, x.name ≠ nmF
structure RowN (B : Nat) (wr : World) (vo : Value) (k : Nat) (l : List BindR) : Prop where
  own : wr.ownsRow B 29 2 vo k (bndCells ((l.take k).map rnB))
  no : ∀ x ∈ l.take k, x.name ≠ nmF
theorem RowE.snoc {B : Nat} {w1 w2 : World} {vo v2 : Value} {k : Nat} {l : List ExpR} (h : RowE B w1 vo k l) (hk : k < l.length) (hn : l[k].name ≠ nmF) (cs : List Value) (hc : cs = expCell (rnX l[k])) (ho : w2.ownsRow B 27 5 v2 (k + 1) (expCells ((l.take k).map rnX) ++ cs)) : RowE B w2 v2 (k + 1) l := by
  have e : l.take (k + 1) = l.take k ++ [l[k]] := by rw [List.take_succ_eq_append_getElem hk]
  refine ⟨?_, fun x hx => ?_⟩
  · rw [e, List.map_append, List.map_singleton, expCells_snoc, ← hc]; exact ho
  · rw [e] at hx
    rcases List.mem_append.1 hx with hx | hx
    · exact h.no x hx
    · obtain rfl : x = l[k] := by simpa using hx
      exact hn
theorem RowN.snoc {B : Nat} {w1 w2 : World} {vo v2 : Value} {k : Nat} {l : List BindR} (h : RowN B w1 vo k l) (hk : k < l.length) (hn : l[k].name ≠ nmF) (cs : List Value) (hc : cs = bndCell (rnB l[k])) (ho : w2.ownsRow B 29 2 v2 (k + 1) (bndCells ((l.take k).map rnB) ++ cs)) : RowN B w2 v2 (k + 1) l := by
  have e : l.take (k + 1) = l.take k ++ [l[k]] := by rw [List.take_succ_eq_append_getElem hk]
  refine ⟨?_, fun x hx => ?_⟩
  · rw [e, List.map_append, List.map_singleton, bndCells_snoc, ← hc]; exact ho
  · rw [e] at hx
    rcases List.mem_append.1 hx with hx | hx
    · exact h.no x hx
    · obtain rfl : x = l[k] := by simpa using hx
      exact hn
set_option maxRecDepth 100000 in
set_option maxHeartbeats 8000000 in
theorem small (a : Option Addr) (len cap : Nat) (hlen : len ≤ 9223372036854775807) (l : List ExpR) (hll : Hid (l.length = len)) (h4 : len ≤ 400) (i : Int) (na : Option Addr) (nlen ncap : Nat) (hnl : nlen ≤ 9223372036854775807) (names : List BindR) (hnn : Hid (names.length = nlen)) (h1 : nlen ≤ 100) (w : World) (hst : ExpAt w a l) (hbn : BndAt w na names) (hh : EnvAt w) :
    Calls Tryd.prog 3 #[.slice a len cap, .int .i64 i, .slice na nlen ncap] w fun e w' => e = .returned (.bool true) ∧ Bw w w' := by
  have H := hid hh
  have HST := hid hst
  have HBN := hid hbn
  obtain ⟨i0E, hinfE, hz0E, hz1E, hz2E⟩ := info_parts expInfo
  obtain ⟨i0B, hinfB, hz0B, hz1B, hz2B⟩ := info_parts bndInfo
  have t1 : ¬ (400 : Int) < len := by omega
  have t2 : ¬ (100 : Int) < nlen := by omega
  clear hst hbn hh
  go_enter Tryd.func3, Tryd.ntmps3
  go_wp2_with fail
  go_loopw [7, 9] (fun vo vi wr => ∃ k : Nat, k ≤ len ∧ vi = .int .i64 k ∧ RowE w.heap.size wr vo k l ∧ Bw w wr) (fun _ vi _ => len - (intOf vi).toNat)
  case atStart => exact ⟨0, Nat.zero_le _, rfl, ⟨World.ownsRow_nil _ _ _ _, fun x hx => absurd hx (by simp)⟩, Bw.refl _⟩
  case round =>
    rename World => wr
    obtain ⟨k, hk, rfl, hr, hb⟩ := hrel
    by_cases hlt : k < len
    · skip
      have hlti : (k : Int) < len := by omega
      have hkl : k < l.length := by rw [hll.out]; exact hlt
      have HKL := hid hkl
      have HRW := hid hr
      obtain ⟨va, vc, rfl⟩ := own_slice hr.own
      obtain ⟨b, off, rfl, hbb, c0, c1, c2, c3, c4, hok⟩ := HST.out.below hb k hkl
      have HB := hid hb
      obtain ⟨⟨o, nm, n, xl, xr⟩, hx⟩ : ∃ q, l[k]'hkl = q := ⟨_, rfl⟩
      have HX := hid hx
      rw [hx] at c0 c1 c2 c3 c4
      simp only at c0 c1 c2 c3 c4
      have HA1 := hid ((Bw.refl wr).alloc (.cells #[.string o, .string nm, .int .u64 n, .int .i64 xl, .int .i64 xr] 27))
      have HN1 := hid (Has.new wr 27 #[.string o, .string nm, .int .u64 n, .int .i64 xl, .int .i64 xr])
      clear hr hb hok hbb hx
      by_cases hf : nm = ⟨#[102, 114, 101, 115, 104]⟩
      · subst hf
        have HB1 := hid (HB.out.trans HA1.out)
        go_wp2_with fail
        refine (live_any (wr.alloc (.cells #[.string o, .string ⟨#[102, 114, 101, 115, 104]⟩, .int .u64 n, .int .i64 xl, .int .i64 xr] 27)) (H.out.bw HB1.out)).mono ?_
        rintro e wl ⟨rfl, hbl⟩
        have HBL := hid hbl
        clear hbl
        go_wp2
        go_returns
        exact ⟨rfl, HB1.out.trans HBL.out⟩
      · have f1 := nm_eq hf
        have HNE := hid (show (l[k]'hkl).name ≠ nmF from by rw [HX.out]; exact hf)
        have n1 : (wr.alloc (.cells #[.string o, .string nm, .int .u64 n, .int .i64 xl, .int .i64 xr] 27)).cell? ⟨wr.heap.size, 1, none⟩ = some (.string nm) := HN1.out.cell 1
        by_cases hn : nm = ⟨#[110]⟩
        · subst hn
          have y1 := HN1.out.frozen 1
          have HN3 := hid (Has.new wr 27 #[.string o, .string ⟨#[102, 114, 101, 115, 104]⟩, .int .u64 n, .int .i64 xl, .int .i64 xr])
          have HBW := hid ((Bw.refl wr).alloc (.cells #[.string o, .string ⟨#[102, 114, 101, 115, 104]⟩, .int .u64 n, .int .i64 xl, .int .i64 xr] 27))
          have HBT := hid (HB.out.trans HBW.out)
          clear f1 hf
          have m0 : (wr.alloc (.cells #[.string o, .string ⟨#[102, 114, 101, 115, 104]⟩, .int .u64 n, .int .i64 xl, .int .i64 xr] 27)).cell? ⟨wr.heap.size, 0, none⟩ = some (.string o) := HN3.out.cell 0
          have m1 : (wr.alloc (.cells #[.string o, .string ⟨#[102, 114, 101, 115, 104]⟩, .int .u64 n, .int .i64 xl, .int .i64 xr] 27)).cell? ⟨wr.heap.size, 1, none⟩ = some (.string ⟨#[102, 114, 101, 115, 104]⟩) := HN3.out.cell 1
          have m2 : (wr.alloc (.cells #[.string o, .string ⟨#[102, 114, 101, 115, 104]⟩, .int .u64 n, .int .i64 xl, .int .i64 xr] 27)).cell? ⟨wr.heap.size, 2, none⟩ = some (.int .u64 n) := HN3.out.cell 2
          have m3 : (wr.alloc (.cells #[.string o, .string ⟨#[102, 114, 101, 115, 104]⟩, .int .u64 n, .int .i64 xl, .int .i64 xr] 27)).cell? ⟨wr.heap.size, 3, none⟩ = some (.int .i64 xl) := HN3.out.cell 3
          have m4 : (wr.alloc (.cells #[.string o, .string ⟨#[102, 114, 101, 115, 104]⟩, .int .u64 n, .int .i64 xl, .int .i64 xr] 27)).cell? ⟨wr.heap.size, 4, none⟩ = some (.int .i64 xr) := HN3.out.cell 4
          have HWA := hid ((Bw.refl (wr.alloc (.cells #[.string o, .string ⟨#[102, 114, 101, 115, 104]⟩, .int .u64 n, .int .i64 xl, .int .i64 xr] 27))).alloc (.cells #[.string o, .string ⟨#[102, 114, 101, 115, 104]⟩, .int .u64 n, .int .i64 xl, .int .i64 xr] 27))
          have HOA := hid (HWA.out.own (HBW.out.own HRW.out.own))
          have HBS := hid (show w.heap.size ≤ ((wr.alloc (.cells #[.string o, .string ⟨#[102, 114, 101, 115, 104]⟩, .int .u64 n, .int .i64 xl, .int .i64 xr] 27)).alloc (.cells #[.string o, .string ⟨#[102, 114, 101, 115, 104]⟩, .int .u64 n, .int .i64 xl, .int .i64 xr] 27)).heap.size from Nat.le_trans HBT.out.size HWA.out.size)
          go_wp2_with (at_builtin; refine wpList_append_own_at _ rfl (.tmp 44) (.tmp 46) 22 rfl w.heap.size 27 i0E (.agg #[.string ⟨#[]⟩, .string ⟨#[]⟩, .int .u64 0, .int .i64 0, .int .i64 0]) 5 56 Tryd.underlying22 hinfE hz0E hz1E hz2E rfl (by decide) (.slice va k vc) k (expCells ((l.take k).map rnX)) rfl HOA.out ⟨wr.heap.size + 1, 0, none⟩ 1 1 [.string o, .string ⟨#[102, 114, 101, 115, 104]⟩, .int .u64 n, .int .i64 xl, .int .i64 xr] rfl rfl (by have h := own_five (wr.alloc (.cells #[.string o, .string ⟨#[102, 114, 101, 115, 104]⟩, .int .u64 n, .int .i64 xl, .int .i64 xr] 27)) (.string o) (.string ⟨#[102, 114, 101, 115, 104]⟩) (.int .u64 n) (.int .i64 xl) (.int .i64 xr) 27; rw [World.size_alloc] at h; exact h) (by intro u hu; simp at hu; rcases hu with rfl | rfl | rfl | rfl | rfl <;> rfl) (by unfold maxLen; omega) (by omega) HBS.out ?_; intro v5 w5 hown5 hgrow5 _ _; obtain ⟨vo5, vc5, rfl⟩ := own_slice hown5; have HO5 := hid hown5; have HG5 := hid hgrow5; clear hown5 hgrow5)
          have HR5 := hid (HRW.out.snoc HKL.out HNE.out [.string o, .string ⟨#[102, 114, 101, 115, 104]⟩, .int .u64 n, .int .i64 xl, .int .i64 xr] (by rw [HX.out]; rfl) HO5.out)
          have HB5 := hid (show Bw w w5 from Below.trans (Bw.trans HBT.out HWA.out) (own_grownJ HOA.out HG5.out HBS.out))
          go_wp2
          exact ⟨⟨k + 1, by omega, by go_num, HR5.out, HB5.out⟩, by simp [intOf]; omega⟩
        · have f2 := nm_eq hn
          have HBW := hid HA1.out
          have HBT := hid (HB.out.trans HBW.out)
          clear n1
          have m0 : (wr.alloc (.cells #[.string o, .string nm, .int .u64 n, .int .i64 xl, .int .i64 xr] 27)).cell? ⟨wr.heap.size, 0, none⟩ = some (.string o) := HN1.out.cell 0
          have m1 : (wr.alloc (.cells #[.string o, .string nm, .int .u64 n, .int .i64 xl, .int .i64 xr] 27)).cell? ⟨wr.heap.size, 1, none⟩ = some (.string nm) := HN1.out.cell 1
          have m2 : (wr.alloc (.cells #[.string o, .string nm, .int .u64 n, .int .i64 xl, .int .i64 xr] 27)).cell? ⟨wr.heap.size, 2, none⟩ = some (.int .u64 n) := HN1.out.cell 2
          have m3 : (wr.alloc (.cells #[.string o, .string nm, .int .u64 n, .int .i64 xl, .int .i64 xr] 27)).cell? ⟨wr.heap.size, 3, none⟩ = some (.int .i64 xl) := HN1.out.cell 3
          have m4 : (wr.alloc (.cells #[.string o, .string nm, .int .u64 n, .int .i64 xl, .int .i64 xr] 27)).cell? ⟨wr.heap.size, 4, none⟩ = some (.int .i64 xr) := HN1.out.cell 4
          have HWA := hid ((Bw.refl (wr.alloc (.cells #[.string o, .string nm, .int .u64 n, .int .i64 xl, .int .i64 xr] 27))).alloc (.cells #[.string o, .string nm, .int .u64 n, .int .i64 xl, .int .i64 xr] 27))
          have HOA := hid (HWA.out.own (HBW.out.own HRW.out.own))
          have HBS := hid (show w.heap.size ≤ ((wr.alloc (.cells #[.string o, .string nm, .int .u64 n, .int .i64 xl, .int .i64 xr] 27)).alloc (.cells #[.string o, .string nm, .int .u64 n, .int .i64 xl, .int .i64 xr] 27)).heap.size from Nat.le_trans HBT.out.size HWA.out.size)
          go_wp2_with (at_builtin; refine wpList_append_own_at _ rfl (.tmp 44) (.tmp 46) 22 rfl w.heap.size 27 i0E (.agg #[.string ⟨#[]⟩, .string ⟨#[]⟩, .int .u64 0, .int .i64 0, .int .i64 0]) 5 56 Tryd.underlying22 hinfE hz0E hz1E hz2E rfl (by decide) (.slice va k vc) k (expCells ((l.take k).map rnX)) rfl HOA.out ⟨wr.heap.size + 1, 0, none⟩ 1 1 [.string o, .string nm, .int .u64 n, .int .i64 xl, .int .i64 xr] rfl rfl (by have h := own_five (wr.alloc (.cells #[.string o, .string nm, .int .u64 n, .int .i64 xl, .int .i64 xr] 27)) (.string o) (.string nm) (.int .u64 n) (.int .i64 xl) (.int .i64 xr) 27; rw [World.size_alloc] at h; exact h) (by intro u hu; simp at hu; rcases hu with rfl | rfl | rfl | rfl | rfl <;> rfl) (by unfold maxLen; omega) (by omega) HBS.out ?_; intro v5 w5 hown5 hgrow5 _ _; obtain ⟨vo5, vc5, rfl⟩ := own_slice hown5; have HO5 := hid hown5; have HG5 := hid hgrow5; clear hown5 hgrow5)
          have HR5 := hid (HRW.out.snoc HKL.out HNE.out [.string o, .string nm, .int .u64 n, .int .i64 xl, .int .i64 xr] (by rw [HX.out]; show ([.string o, .string nm, .int .u64 n, .int .i64 xl, .int .i64 xr] : List Value) = [.string o, .string (rnW nm), .int .u64 n, .int .i64 xl, .int .i64 xr]; rw [rnW_no hn]) HO5.out)
          have HB5 := hid (show Bw w w5 from Below.trans (Bw.trans HBT.out HWA.out) (own_grownJ HOA.out HG5.out HBS.out))
          go_wp2
          exact ⟨⟨k + 1, by omega, by go_num, HR5.out, HB5.out⟩, by simp [intOf]; omega⟩
    · obtain rfl : len = k := by omega
      obtain ⟨ea, ec, rfl⟩ := own_slice hr.own
      have hno : ∀ x ∈ l, x.name ≠ nmF := fun x hx => hr.no x (by rw [List.take_of_length_le (by rw [hll.out]; exact Nat.le_refl _)]; exact hx)
      have hrow : wr.ownsRow w.heap.size 27 5 (.slice ea len ec) len (expCells (l.map rnX)) := by
        have h := hr.own
        rw [List.take_of_length_le (by rw [hll.out]; exact Nat.le_refl _)] at h
        exact h
      have HNO := hid hno
      have HROW := hid hrow
      have HBE := hid hb
      clear hr hb hno hrow hlt hk
      go_wp2_with fail
      go_loopw [8, 11] (fun vo vi wz => ∃ k2 : Nat, k2 ≤ nlen ∧ vi = .int .i64 k2 ∧ RowN w.heap.size wz vo k2 names ∧ wz.ownsRow w.heap.size 27 5 (.slice ea len ec) len (expCells (l.map rnX)) ∧ Bw w wz) (fun _ vi _ => nlen - (intOf vi).toNat)
      case atStart => exact ⟨0, Nat.zero_le _, rfl, ⟨World.ownsRow_nil _ _ _ _, fun x hx => absurd hx (by simp)⟩, HROW.out, HBE.out⟩
      case round =>
        rename World => wr
        obtain ⟨k, hk, rfl, hr, hfst, hb⟩ := hrel
        have HFST := hid hfst
        clear hfst
        by_cases hlt : k < nlen
        · skip
          have hlti : (k : Int) < nlen := by omega
          have hkl : k < names.length := by rw [hnn.out]; exact hlt
          have HKL := hid hkl
          have HRW := hid hr
          obtain ⟨va, vc, rfl⟩ := own_slice hr.own
          obtain ⟨b, off, rfl, hbb, c0, c1, hok⟩ := HBN.out.below hb k hkl
          have HB := hid hb
          obtain ⟨⟨nm, n⟩, hx⟩ : ∃ q, names[k]'hkl = q := ⟨_, rfl⟩
          have HX := hid hx
          rw [hx] at c0 c1
          simp only at c0 c1
          have HA1 := hid ((Bw.refl wr).alloc (.cells #[.string nm, .int .u64 n] 29))
          have HN1 := hid (Has.new wr 29 #[.string nm, .int .u64 n])
          clear hr hb hok hbb hx
          by_cases hf : nm = ⟨#[102, 114, 101, 115, 104]⟩
          · subst hf
            have HB1 := hid (HB.out.trans HA1.out)
            go_wp2_with fail
            refine (live_any (wr.alloc (.cells #[.string ⟨#[102, 114, 101, 115, 104]⟩, .int .u64 n] 29)) (H.out.bw HB1.out)).mono ?_
            rintro e wl ⟨rfl, hbl⟩
            have HBL := hid hbl
            clear hbl
            go_wp2
            go_returns
            exact ⟨rfl, HB1.out.trans HBL.out⟩
          · have f1 := nm_eq hf
            have HNE := hid (show (names[k]'hkl).name ≠ nmF from by rw [HX.out]; exact hf)
            have n0 : (wr.alloc (.cells #[.string nm, .int .u64 n] 29)).cell? ⟨wr.heap.size, 0, none⟩ = some (.string nm) := HN1.out.cell 0
            by_cases hn : nm = ⟨#[110]⟩
            · subst hn
              have y0 := HN1.out.frozen 0
              have HN3 := hid (Has.new wr 29 #[.string ⟨#[102, 114, 101, 115, 104]⟩, .int .u64 n])
              have HBW := hid ((Bw.refl wr).alloc (.cells #[.string ⟨#[102, 114, 101, 115, 104]⟩, .int .u64 n] 29))
              have HBT := hid (HB.out.trans HBW.out)
              clear f1 hf
              have m0 : (wr.alloc (.cells #[.string ⟨#[102, 114, 101, 115, 104]⟩, .int .u64 n] 29)).cell? ⟨wr.heap.size, 0, none⟩ = some (.string ⟨#[102, 114, 101, 115, 104]⟩) := HN3.out.cell 0
              have m1 : (wr.alloc (.cells #[.string ⟨#[102, 114, 101, 115, 104]⟩, .int .u64 n] 29)).cell? ⟨wr.heap.size, 1, none⟩ = some (.int .u64 n) := HN3.out.cell 1
              have HWA := hid ((Bw.refl (wr.alloc (.cells #[.string ⟨#[102, 114, 101, 115, 104]⟩, .int .u64 n] 29))).alloc (.cells #[.string ⟨#[102, 114, 101, 115, 104]⟩, .int .u64 n] 29))
              have HOA := hid (HWA.out.own (HBW.out.own HRW.out.own))
              have HBS := hid (show w.heap.size ≤ ((wr.alloc (.cells #[.string ⟨#[102, 114, 101, 115, 104]⟩, .int .u64 n] 29)).alloc (.cells #[.string ⟨#[102, 114, 101, 115, 104]⟩, .int .u64 n] 29)).heap.size from Nat.le_trans HBT.out.size HWA.out.size)
              go_wp2_with (at_builtin; refine wpList_append_own_at _ rfl (.tmp 66) (.tmp 68) 23 rfl w.heap.size 29 i0B (.agg #[.string ⟨#[]⟩, .int .u64 0]) 2 24 Tryd.underlying23 hinfB hz0B hz1B hz2B rfl (by decide) (.slice va k vc) k (bndCells ((names.take k).map rnB)) rfl HOA.out ⟨wr.heap.size + 1, 0, none⟩ 1 1 [.string ⟨#[102, 114, 101, 115, 104]⟩, .int .u64 n] rfl rfl (by have h := own_two (wr.alloc (.cells #[.string ⟨#[102, 114, 101, 115, 104]⟩, .int .u64 n] 29)) (.string ⟨#[102, 114, 101, 115, 104]⟩) (.int .u64 n) 29; rw [World.size_alloc] at h; exact h) (by intro u hu; simp at hu; rcases hu with rfl | rfl <;> rfl) (by unfold maxLen; omega) (by omega) HBS.out ?_; intro v5 w5 hown5 hgrow5 _ _; obtain ⟨vo5, vc5, rfl⟩ := own_slice hown5; have HO5 := hid hown5; have HG5 := hid hgrow5; clear hown5 hgrow5)
              have HR5 := hid (HRW.out.snoc HKL.out HNE.out [.string ⟨#[102, 114, 101, 115, 104]⟩, .int .u64 n] (by rw [HX.out]; rfl) HO5.out)
              have HB5 := hid (show Bw w w5 from Below.trans (Bw.trans HBT.out HWA.out) (own_grownJ HOA.out HG5.out HBS.out))
              have HF5 := hid (own_keep (HWA.out.own (HBW.out.own HFST.out)) fun b hb => HG5.out.block b (own_lt (HWA.out.own (HBW.out.own HFST.out)) hb) (fun e => by obtain ⟨q1, z1⟩ := own_at (HWA.out.own (HBW.out.own HFST.out)) hb; obtain ⟨q2, z2⟩ := own_at HOA.out e.symm; rw [z1] at z2; injection z2 with z2; injection z2 with _ z2; exact absurd z2 (by decide)))
              go_wp2
              exact ⟨⟨k + 1, by omega, by go_num, HR5.out, HF5.out, HB5.out⟩, by simp [intOf]; omega⟩
            · have f2 := nm_eq hn
              have HBW := hid HA1.out
              have HBT := hid (HB.out.trans HBW.out)
              clear n0
              have m0 : (wr.alloc (.cells #[.string nm, .int .u64 n] 29)).cell? ⟨wr.heap.size, 0, none⟩ = some (.string nm) := HN1.out.cell 0
              have m1 : (wr.alloc (.cells #[.string nm, .int .u64 n] 29)).cell? ⟨wr.heap.size, 1, none⟩ = some (.int .u64 n) := HN1.out.cell 1
              have HWA := hid ((Bw.refl (wr.alloc (.cells #[.string nm, .int .u64 n] 29))).alloc (.cells #[.string nm, .int .u64 n] 29))
              have HOA := hid (HWA.out.own (HBW.out.own HRW.out.own))
              have HBS := hid (show w.heap.size ≤ ((wr.alloc (.cells #[.string nm, .int .u64 n] 29)).alloc (.cells #[.string nm, .int .u64 n] 29)).heap.size from Nat.le_trans HBT.out.size HWA.out.size)
              go_wp2_with (at_builtin; refine wpList_append_own_at _ rfl (.tmp 66) (.tmp 68) 23 rfl w.heap.size 29 i0B (.agg #[.string ⟨#[]⟩, .int .u64 0]) 2 24 Tryd.underlying23 hinfB hz0B hz1B hz2B rfl (by decide) (.slice va k vc) k (bndCells ((names.take k).map rnB)) rfl HOA.out ⟨wr.heap.size + 1, 0, none⟩ 1 1 [.string nm, .int .u64 n] rfl rfl (by have h := own_two (wr.alloc (.cells #[.string nm, .int .u64 n] 29)) (.string nm) (.int .u64 n) 29; rw [World.size_alloc] at h; exact h) (by intro u hu; simp at hu; rcases hu with rfl | rfl <;> rfl) (by unfold maxLen; omega) (by omega) HBS.out ?_; intro v5 w5 hown5 hgrow5 _ _; obtain ⟨vo5, vc5, rfl⟩ := own_slice hown5; have HO5 := hid hown5; have HG5 := hid hgrow5; clear hown5 hgrow5)
              have HR5 := hid (HRW.out.snoc HKL.out HNE.out [.string nm, .int .u64 n] (by rw [HX.out]; show ([.string nm, .int .u64 n] : List Value) = [.string (rnW nm), .int .u64 n]; rw [rnW_no hn]) HO5.out)
              have HB5 := hid (show Bw w w5 from Below.trans (Bw.trans HBT.out HWA.out) (own_grownJ HOA.out HG5.out HBS.out))
              have HF5 := hid (own_keep (HWA.out.own (HBW.out.own HFST.out)) fun b hb => HG5.out.block b (own_lt (HWA.out.own (HBW.out.own HFST.out)) hb) (fun e => by obtain ⟨q1, z1⟩ := own_at (HWA.out.own (HBW.out.own HFST.out)) hb; obtain ⟨q2, z2⟩ := own_at HOA.out e.symm; rw [z1] at z2; injection z2 with z2; injection z2 with _ z2; exact absurd z2 (by decide)))
              go_wp2
              exact ⟨⟨k + 1, by omega, by go_num, HR5.out, HF5.out, HB5.out⟩, by simp [intOf]; omega⟩
        · obtain rfl : nlen = k := by omega
          obtain ⟨ma, mc, rfl⟩ := own_slice hr.own
          have hnn2 : ∀ x ∈ names, x.name ≠ nmF := fun x hx => hr.no x (by rw [List.take_of_length_le (by rw [hnn.out]; exact Nat.le_refl _)]; exact hx)
          have hrow : wr.ownsRow w.heap.size 29 2 (.slice ma nlen mc) nlen (bndCells (names.map rnB)) := by
            have h := hr.own
            rw [List.take_of_length_le (by rw [hnn.out]; exact Nat.le_refl _)] at h
            exact h
          have hel : (l.map rnX).length = len := by rw [List.length_map]; exact hll.out
          have hnl2 : (names.map rnB).length = nlen := by rw [List.length_map]; exact hnn.out
          have HEX := hid (ExpAt.of_own (l := l.map rnX) (by rw [hel]; exact HFST.out) (fun o ho => by
            obtain ⟨x, hx, rfl⟩ := List.mem_map.1 ho
            exact ok_rnX (ok_exp HST.out x hx)))
          have HBX := hid (BndAt.of_own (l := names.map rnB) (by rw [hnl2]; exact hrow) (fun o ho => by
            obtain ⟨x, hx, rfl⟩ := List.mem_map.1 ho
            exact ok_rnB (ok_bnd HBN.out x hx)))
          have HB := hid hb
          have HE1 := hid (eval_any a len cap hlen l hll i na nlen ncap hnl names hnn wr (HST.out.below hb) (HBN.out.below hb) (H.out.bw hb).sgn)
          have HE2 := hid (fun W (h : Bw wr W) => eval_any ea len ec hlen (l.map rnX) (hid hel) i ma nlen mc hnl (names.map rnB) (hid hnl2) W (HEX.out.below h) (HBX.out.below h) (H.out.bw (HB.out.trans h)).sgn)
          rw [rn_eval l i names HNO.out hnn2] at HE2
          generalize (evalX l i names).1 = x at *
          generalize (evalX l i names).2 = y at *
          clear hr hb hnn2 hrow hel hnl2 hlt hk
          go_wp2_with fail
          refine HE1.out.mono ?_
          rintro e w1 ⟨rfl, hb1⟩
          have HB1 := hid hb1
          clear hb1
          go_wp2_with fail
          refine (HE2.out w1 HB1.out).mono ?_
          rintro e w2 ⟨rfl, hb2⟩
          have HB2 := hid (HB.out.trans (HB1.out.trans hb2))
          clear hb2
          go_wp2_with fail
          refine (live_any w2 (H.out.bw HB2.out)).mono ?_
          rintro e wl ⟨rfl, hbl⟩
          have HBL := hid hbl
          clear hbl
          go_wp2
          go_returns
          exact ⟨rfl, HB2.out.trans HBL.out⟩
set_option maxRecDepth 100000 in
set_option maxHeartbeats 8000000 in
theorem walk (a : Option Addr) (len cap : Nat) (hlen : len ≤ 9223372036854775807) (l : List ExpR) (hll : Hid (l.length = len)) (i : Int) (hi : Lit.wf (.int .i64 i) = true) (na : Option Addr) (nlen ncap : Nat) (hnl : nlen ≤ 9223372036854775807) (names : List BindR) (hnn : Hid (names.length = nlen)) (w : World) (hst : ExpAt w a l) (hbn : BndAt w na names) (hh : EnvAt w) :
    Calls Tryd.prog 3 #[.slice a len cap, .int .i64 i, .slice na nlen ncap] w fun e w' => e = .returned (.bool true) ∧ Bw w w' := by
  have H := hid hh
  by_cases c1 : 400 < len
  · have t1 : (400 : Int) < len := by omega
    clear hst hbn hh c1 hi
    go_enter Tryd.func3, Tryd.ntmps3
    go_wp2_with fail
    refine (live_any w (H.out)).mono ?_
    rintro e wl ⟨rfl, hbl⟩
    have HBL := hid hbl
    clear hbl
    go_wp2
    go_returns
    exact ⟨rfl, HBL.out⟩
  · have t1 : ¬ (400 : Int) < len := by omega
    by_cases c2 : 100 < nlen
    · have t2 : (100 : Int) < nlen := by omega
      clear hst hbn hh c1 c2 hi
      go_enter Tryd.func3, Tryd.ntmps3
      go_wp2_with fail
      refine (live_any w (H.out)).mono ?_
      rintro e wl ⟨rfl, hbl⟩
      have HBL := hid hbl
      clear hbl
      go_wp2
      go_returns
      exact ⟨rfl, HBL.out⟩
    · exact small a len cap hlen l hll (by omega) i na nlen ncap hnl names hnn (by omega) w hst hbn hh

/-! The frame: from the walk to the statement. -/
set_option maxRecDepth 100000 in
theorem lifted (os : Os) (started : os.Started) (H : Type) (enc : TypeId × Value → H) :
    ReturnsInHanded {} Tryd.checked os 3 .any (fun w args => (Rows.expRenamedSpec.pre enc Tryd.prog Tryd.f3 [] false w args ∧ laidMetH Tryd.prog Rows.expRenamedRow.laid w) ∧ sizedMet enc Tryd.prog Tryd.f3 (OpenSpec.ofChange Rows.expRenamedSpec) false w args)
      (Rows.expRenamedSpec.post enc Tryd.prog Tryd.f3 false true false false) := by
  refine returnsInHanded_of_change_and (C := Tryd.checked) (X := fun w _ => laidMetH Tryd.prog Rows.expRenamedRow.laid w) (fun _ _ _ hh h => h.of_heap hh) own started (by kernel_rfl) Tryd.func3
    (ChangeSpec.witness_shaped (enc := enc) (C := Tryd.checked) (os := os) (X := fun w _ => laidMetH Tryd.prog Rows.expRenamedRow.laid w) false (World.laidAll Tryd.prog os Rows.expRenamedRow.laid) #[.slice none 0 0, .int .i64 0, .slice none 0 0] 8 (World.laidAll_os _ _ _) (World.shaped_of_ZipB (by kernel_rfl) (by kernel_rfl)) (by kernel_rfl) (by kernel_rfl) (by kernel_rfl) (laid_met os _)) ?_
  intro W base args ds gs before hval0 hW _ hsz0 hL _
  have hval : ∀ (j : Nat) t v, Tryd.f3.params[j]? = some t → args[j]? = some v → Value.okWide Tryd.prog W .any base t v := hval0
  have hW' := hW
  obtain ⟨p, q, hA0, hV, rfl, hfz, hnd⟩ := hW
  have hA : DataW.TrodAll enc Tryd.prog W 0 (fun _ => true) true Tryd.f3.params.toList args.toList ds p := hA0
  have hsz : (DataW.weightsEach Tryd.prog (Tryd.f3.params.toList ++ Rows.expRenamedSpec.plain.varTypes Tryd.prog) (ds ++ gs)).all (· ≤ reachBytes) = true := hsz0
  rw [Tryd.params3] at hA hval hsz
  obtain ⟨v0, vs0, d0, ds0, p0, q0, hargs, rfl, rfl, h0, r0⟩ := trodAll_cons hA
  obtain ⟨v1, vs1, d1, ds1, p1, q1, rfl, rfl, rfl, h1, r1⟩ := trodAll_cons r0
  obtain ⟨v2, vs2, d2, ds2, p2, q2, rfl, rfl, rfl, h2, r2⟩ := trodAll_cons r1
  obtain ⟨rfl, rfl, rfl⟩ := trodAll_nil r2
  obtain rfl : args = #[v0, v1, v2] := by cases args; simp_all
  obtain ⟨rfl, rfl⟩ := trodVars_none hV
  have k0 := h0
  have lt0 : ∀ x ∈ p0, x.block < W.heap.size := by obtain ⟨m, hm⟩ := k0; exact DataW.trod_lt m _ _ _ hm
  obtain ⟨oa0, ol0, oc0, rfl⟩ := okWide_slice Tryd.underlying22 (hval 0 22 v0 rfl rfl)
  obtain ⟨m0, t0⟩ := h0
  obtain ⟨A0, len0, cap0, l0, he0, hl0, hll0, hst0⟩ := open_exp t0
  rw [he0] at hW' k0 ⊢
  obtain ⟨a1, rfl, rfl, rfl, w1⟩ := open_int Tryd.underlying3 (hval 1 3 v1 rfl rfl) h1
  have k2 := h2
  have lt2 : ∀ x ∈ p2, x.block < W.heap.size := by obtain ⟨m, hm⟩ := k2; exact DataW.trod_lt m _ _ _ hm
  obtain ⟨oa2, ol2, oc2, rfl⟩ := okWide_slice Tryd.underlying23 (hval 2 23 v2 rfl rfl)
  obtain ⟨m2, t2⟩ := h2
  obtain ⟨A2, len2, cap2, l2, he2, hl2, hll2, hst2⟩ := open_bnd t2
  rw [he2] at hW' k2 ⊢
  clear hA0 hval0
  try simp only [List.append_nil] at hW'
  refine (walk A0 len0 cap0 hl0 l0 hll0 a1 w1 A2 len2 cap2 hl2 l2 hll2 W hst0 hst2 (env_of hL)).mono fun e W' ⟨he, bel⟩ => ?_
  subst he
  exact ⟨_, rfl, _, _, _, [], _, [], hW', trodAll_mk1 (shut_bool Tryd.underlying4 _), (trodAll_cons_mk (Below.trod laidOut (by kernel_rfl) (of_decide_eq_true (by kernel_rfl)) k0 bel lt0) (trodAll_cons_mk (shut_int Tryd.underlying3 w1) (trodAll_cons_mk (Below.trod laidOut (by kernel_rfl) (of_decide_eq_true (by kernel_rfl)) k2 bel lt2) trodAll_mk0))), rfl, Below.frame bel _, fun h => by cases h⟩

theorem holds : Rows.ExpRenamedSaid :=
  OpenClaim.holds_of_wide 3 Tryd.f3 rfl rfl rfl rfl rfl rfl rfl ⟨rfl, rfl, rfl, rfl, rfl⟩ rfl rfl rfl rfl rfl (by kernel_rfl) Tryd.func3 (by kernel_rfl)
    (of_decide_eq_true (by kernel_rfl)) (by unfold Func.isWrapper; first | (rw [if_pos (by decide +kernel)]; kernel_rfl) | (rw [if_neg (by decide +kernel)]; exact ⟨rfl, rfl⟩))
    (fun os started H enc _ => lifted os started H enc)

theorem proved : Rows.ExpRenamedCardSaid :=
  Claim7.holds_tied_plain_at .later [] [.data, .data, .data, .data, .sentinel, .sentinel, .data, .pinned] true _ true
    holds (fun _ h => by cases h) (by kernel_rfl) (fun _ h => by cases h) expRenamed_row_tie rfl ⟨rfl, rfl⟩ (by kernel_rfl) rfl
    (fun f fn hf hfn => by
      obtain rfl : f = 3 := Option.some.inj ((show Tryd.prog.funcNamed "mortise/mortiselaw11.ExpRenamed" = some 3 by kernel_rfl).symm.trans hf) |>.symm
      obtain rfl : fn = Tryd.f3 := (Option.some.inj (Tryd.func3.symm.trans hfn)).symm
      exact ⟨by kernel_rfl, fun j t ht => by
        rw [Tryd.params3] at ht
        have hm : t ∈ [22, 3, 23] := by simpa using Array.mem_of_getElem? ht
        have hall : ([22, 3, 23].all fun u => !Tryd.prog.wantsStandIn u) = true := by kernel_rfl
        exact (show Tryd.prog.wantsStandIn t = false by simpa using List.all_eq_true.1 hall t hm)⟩)
    (by kernel_rfl)
end Go.Proofs.YtlilmidffcmkjabDoor.expRenamed

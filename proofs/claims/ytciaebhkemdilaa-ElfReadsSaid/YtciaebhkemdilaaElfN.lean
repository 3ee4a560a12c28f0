/- The writer's align, and its headers of a segment and a section (contracts of the methods). -/
import Derived.Test.YtciaebhkemdilaaElfM
namespace Go.Proofs.Ytciaebhkemdilaa
open Go.RowKit Go.Conc
set_option linter.unusedVariables false
set_option linter.unusedSimpArgs false
/-- So many bytes 0. -/
def zerosT (k : Nat) : ByteArray := ⟨(List.replicate k 0).toArray⟩
theorem zerosT_size (k : Nat) : (zerosT k).size = k := by show (List.replicate k (0 : UInt8)).toArray.size = k; simp
theorem zerosT_succ (k : Nat) : zerosT (k + 1) = zerosT k ++ ⟨#[0]⟩ := by
  apply ba_ext
  rw [app_list]
  show (List.replicate (k + 1) (0 : UInt8)) = List.replicate k 0 ++ [0]
  rw [List.replicate_succ']
def pad8 (n : Nat) : Nat := (8 - n % 8) % 8
theorem pad8_le (n : Nat) : pad8 n < 8 := by unfold pad8; omega
theorem pad8_mod (n : Nat) : (n + pad8 n) % 8 = 0 := by unfold pad8; omega
theorem WOk.bw {B b : Nat} {s : ByteArray} {w w' : World} (h : WOk B b s w) (hb : Bw w w') : WOk B b s w' := by
  obtain ⟨u, h⟩ := h
  exact ⟨u, h.bw hb⟩
theorem WOk.ne {B b g : Nat} {s : ByteArray} {t : TypeId} {cs : Array Value} {w : World} (h : WOk B b s w) (k : Has w g t cs) (ht : t ≠ 69) : g ≠ b := by
  obtain ⟨u, h⟩ := h
  exact WB.ne h k ht
theorem halvesW (l : List Nat) (hl : ∀ n ∈ l, n < 65536) (h100 : l.length ≤ 100) (g B b : Nat) (s : ByteArray) (hs : s.size ≤ 100000000) (w : World) (hB : B ≤ w.heap.size) (h : WOk B b s w) (hg : Has w g 3 (l.map fun (n : Nat) => Value.int .i64 n).toArray) :
    Calls Try.prog 59 #[.pointer (some ⟨b, 0, none⟩), .slice (some ⟨g, 0, none⟩) l.length l.length] w fun e w' => e = .returned (.tuple #[]) ∧ WOk B b (s ++ numsT 2 l) w' ∧ BKeeps B b w w' := by
  obtain ⟨u, h⟩ := h
  exact halves_any l hl h100 g B b u s hs w hB h hg
theorem wordsW (l : List Nat) (hl : ∀ n ∈ l, n < 4294967296) (h100 : l.length ≤ 100) (g B b : Nat) (s : ByteArray) (hs : s.size ≤ 100000000) (w : World) (hB : B ≤ w.heap.size) (h : WOk B b s w) (hg : Has w g 3 (l.map fun (n : Nat) => Value.int .i64 n).toArray) :
    Calls Try.prog 60 #[.pointer (some ⟨b, 0, none⟩), .slice (some ⟨g, 0, none⟩) l.length l.length] w fun e w' => e = .returned (.tuple #[]) ∧ WOk B b (s ++ numsT 4 l) w' ∧ BKeeps B b w w' := by
  obtain ⟨u, h⟩ := h
  exact words_any l hl h100 g B b u s hs w hB h hg
theorem longsW (l : List Nat) (hl : ∀ n ∈ l, n < 18446744073709551616) (h100 : l.length ≤ 100) (g B b : Nat) (s : ByteArray) (hs : s.size ≤ 100000000) (w : World) (hB : B ≤ w.heap.size) (h : WOk B b s w) (hg : Has w g 23 (l.map fun (n : Nat) => Value.int .u64 n).toArray) :
    Calls Try.prog 61 #[.pointer (some ⟨b, 0, none⟩), .slice (some ⟨g, 0, none⟩) l.length l.length] w fun e w' => e = .returned (.tuple #[]) ∧ WOk B b (s ++ numsT 8 l) w' ∧ BKeeps B b w w' := by
  obtain ⟨u, h⟩ := h
  exact longs_any l hl h100 g B b u s hs w hB h hg
theorem lenW {B b : Nat} {s : ByteArray} {w : World} (h : WOk B b s w) :
    Calls Try.prog 57 #[.pointer (some ⟨b, 0, none⟩)] w fun e w' => e = .returned (.int .i64 s.size) ∧ w' = w := by
  obtain ⟨u, h⟩ := h
  exact WB.len_any B b u s w h
theorem byteW {B b : Nat} {s : ByteArray} {w : World} (c : UInt8) (hs : s.size ≤ 1000000000) (hB : B ≤ w.heap.size) (h : WOk B b s w) :
    Calls Try.prog 58 #[.pointer (some ⟨b, 0, none⟩), .int .u8 c.toNat] w fun e w' => e = .returned .nilIface ∧ WOk B b (s ++ ⟨#[c]⟩) w' ∧ BKeeps B b w w' := by
  obtain ⟨u, h⟩ := h
  exact (WB.wbyte_any B b u s c (by omega) w hB h).mono fun e w' ⟨h1, h2, h3⟩ => ⟨h1, ⟨true, h2⟩, h3⟩
theorem strW {B b : Nat} {s : ByteArray} {w : World} (t : ByteArray) (hs : s.size + t.size ≤ 1000000000) (hB : B ≤ w.heap.size) (h : WOk B b s w) :
    Calls Try.prog 33 #[.pointer (some ⟨b, 0, none⟩), .string t] w fun e w' => e = .returned (.tuple #[.int .i64 t.size, .nilIface]) ∧ WOk B b (s ++ t) w' ∧ BKeeps B b w w' := by
  obtain ⟨u, h⟩ := h
  exact (WB.write_any B b u s t (by omega) w hB h).mono fun e w' ⟨h1, h2, h3⟩ => ⟨h1, ⟨true, h2⟩, h3⟩
def sliceN : Option Value → Nat
  | some (.slice _ n _) => n
  | _ => 0
theorem WOk.len {B b : Nat} {s : ByteArray} {w : World} (h : WOk B b s w) : sliceN (w.cell? ⟨b, 1, none⟩) = s.size := by
  obtain ⟨u, hB, v, hH, hR⟩ := h
  obtain ⟨ao, cap, rfl⟩ := own_slice hR
  rw [hH.cell 1]
  rfl
set_option maxRecDepth 100000 in
set_option maxHeartbeats 2000000 in
theorem align_any (B b : Nat) (s : ByteArray) (hs : s.size ≤ 500000000) (w : World) (hB : B ≤ w.heap.size) (h : WOk B b s w) :
    Calls Try.prog 32 #[.pointer (some ⟨b, 0, none⟩)] w fun e w' => e = .returned (.tuple #[]) ∧ WOk B b (s ++ zerosT (pad8 s.size)) w' ∧ BKeeps B b w w' := by
  have HH := hid h
  have hp8 := pad8_le s.size
  have hpm := pad8_mod s.size
  obtain ⟨P, hP⟩ : ∃ P, pad8 s.size = P := ⟨_, rfl⟩
  rw [hP] at hp8 hpm ⊢
  have HPD := hid (show P = (8 - s.size % 8) % 8 from hP.symm)
  clear h hP
  go_enter Try.func32, Try.ntmps32
  go_wp2
  go_loopw [] (fun wr => ∃ k : Nat, k ≤ P ∧ WOk B b (s ++ zerosT k) wr ∧ BKeeps B b w wr) (fun wr => s.size + P - sliceN (wr.cell? ⟨b, 1, none⟩))
  case atStart => exact ⟨0, by omega, by show WOk B b (s ++ ⟨#[]⟩) w; rw [app_nil]; exact HH.out, BKeeps.refl _ _ _⟩
  case round =>
    rename World => wr
    obtain ⟨k, hk, hbl, hke⟩ := hrel
    have HBL := hid hbl
    have HKE := hid hke
    have HB2 := hid (show B ≤ wr.heap.size from Nat.le_trans hB hke.2.1)
    have hz : (s ++ zerosT k).size = s.size + k := by rw [ByteArray.size_append, zerosT_size]
    have HL1 := hid (hbl.len.trans hz)
    have HLEN := hid (lenW hbl)
    rw [hz] at HLEN
    obtain ⟨z, hzz⟩ : ∃ z, s.size + k = z := ⟨_, rfl⟩
    rw [hzz] at HLEN HL1
    have HZZ := hid hzz
    clear hbl hke hz
    by_cases hlt : k < P
    · have HLT := hid hlt
      have t0 : ((z : Int).tmod 8 != 0) = true := by
        rw [Int.tmod_eq_emod_of_nonneg (by omega), bne_iff_ne]
        have := HPD.out
        omega
      have t1 : ((z : Int) % 8 != 0) = true := by
        rw [bne_iff_ne]
        have := HPD.out
        omega
      clear hzz
      go_wp2_with fail
      refine HLEN.out.mono ?_
      rintro e w2 ⟨rfl, rfl⟩
      go_wp2_with fail
      refine (byteW 0 (by rw [ByteArray.size_append, zerosT_size]; have := HPD.out; have := HLT.out; omega) HB2.out HBL.out).mono ?_
      rintro e w3 ⟨rfl, h3, hk3⟩
      have H3 := hid (show WOk B b (s ++ zerosT (k + 1)) w3 by rw [zerosT_succ, ← app_as]; exact h3)
      have HK3 := hid (HKE.out.trans hk3)
      have HL3 := hid (show sliceN (w3.cell? ⟨b, 1, none⟩) = z + 1 from by rw [H3.out.len, ByteArray.size_append, zerosT_size]; have := HZZ.out; omega)
      clear h3 hk3
      go_wp2
      exact ⟨⟨k + 1, HLT.out, H3.out, HK3.out⟩, by rw [HL1.out, HL3.out]; have := HZZ.out; have := HLT.out; omega⟩
    · obtain rfl : k = P := by omega
      have t0 : ((z : Int).tmod 8 != 0) = false := by
        rw [Int.tmod_eq_emod_of_nonneg (by omega), bne_eq_false_iff_eq]
        omega
      have t1 : ((z : Int) % 8 != 0) = false := by
        rw [bne_eq_false_iff_eq]
        omega
      clear hzz
      go_wp2_with fail
      refine HLEN.out.mono ?_
      rintro e w2 ⟨rfl, rfl⟩
      go_wp2
      go_returns
      exact ⟨rfl, HBL.out, HKE.out⟩
end Go.Proofs.Ytciaebhkemdilaa

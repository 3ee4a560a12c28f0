import Derived.Test.YtciaebhkemdilabRows
import Derived.Test.YtciaebhkemdilabBase
import Derived.Deep.QuietTactic
import Derived.BigQuiet
/- What win's widths, windows and parts return, for every text and every pair of ints (contracts of the functions; a text has at most 2^48 bytes, a window begins within 0 to 2^48). -/
namespace Go.Proofs.Ytciaebhkemdilab
open Go.RowKit
set_option linter.unusedVariables false

def widB (n : Int) : Bool := decide (n = 1 ∨ n = 2 ∨ n = 4 ∨ n = 8)

set_option maxHeartbeats 400000 in
theorem isWidth_any (n : Int) (w : World) :
    Calls Try.prog 53 #[.int .i64 n] w fun e w' => e = .returned (.bool (widB n)) ∧ w = w' := by
  go_enter Try.func53, Try.ntmps53
  go_wp2
  all_goals (go_ret; refine ⟨ret_bool ?_, rfl⟩; rw [Bool.eq_iff_iff]; simp [widB]; try omega)



def lim : Nat := 281474976710656
def subE (z : Nat) (at' n : Int) : Int := if at' < 0 ∨ n < 0 then 1 else if (z : Int) < at' ∨ (z : Int) - at' < n then 2 else 0
def subS (s : ByteArray) (at' n : Int) : ByteArray := if subE s.size at' n = 0 then s.extract at'.toNat (at'.toNat + n.toNat) else ByteArray.empty
def subB (z : Nat) (b at' n : Int) : Int := if subE z at' n = 0 then b + at' else 0
theorem subE_arg {z : Nat} {a n : Int} (h : a < 0 ∨ n < 0) : subE z a n = 1 := if_pos h
theorem subE_cut {z : Nat} {a n : Int} (h : ¬ (a < 0 ∨ n < 0)) (k : (z : Int) < a ∨ (z : Int) - a < n) : subE z a n = 2 := by rw [subE, if_neg h, if_pos k]
theorem subE_ok {z : Nat} {a n : Int} (h : ¬ (a < 0 ∨ n < 0)) (k : ¬ ((z : Int) < a ∨ (z : Int) - a < n)) : subE z a n = 0 := by rw [subE, if_neg h, if_neg k]
theorem subS_bad {s : ByteArray} {a n : Int} (h : subE s.size a n ≠ 0) : subS s a n = ByteArray.empty := if_neg h
theorem subS_ok {s : ByteArray} {a n : Int} (h : subE s.size a n = 0) : subS s a n = s.extract a.toNat (a.toNat + n.toNat) := if_pos h
theorem subB_bad {z : Nat} {b a n : Int} (h : subE z a n ≠ 0) : subB z b a n = 0 := if_neg h
theorem subB_ok {z : Nat} {b a n : Int} (h : subE z a n = 0) : subB z b a n = b + a := if_pos h
theorem ret_win {b c : Int} {s t : ByteArray} {e f : Int} (h : b = c) (k : s = t) (l : e = f) : Ending.returned (.tuple #[.agg #[.int .i64 b, .string s], .int .i64 e]) = .returned (.tuple #[.agg #[.int .i64 c, .string t], .int .i64 f]) := by rw [h, k, l]
set_option maxHeartbeats 400000 in
theorem of_any (s : ByteArray) (w : World) :
    Calls Try.prog 23 #[.string s] w fun e w' => e = .returned (.agg #[.int .i64 0, .string s]) ∧ Bw w w' := by
  go_enter Try.func23, Try.ntmps23
  go_wp2
  go_returns
  exact ⟨rfl, by unfold Bw; go_grown⟩

set_option maxHeartbeats 400000 in
theorem text_any (b : Int) (s : ByteArray) (hs : s.size ≤ lim) (w : World) :
    Calls Try.prog 38 #[.agg #[.int .i64 b, .string s]] w fun e w' => e = .returned (.string s) ∧ Bw w w' := by
  unfold lim at hs
  go_enter Try.func38, Try.ntmps38
  go_wp2
  go_returns
  exact ⟨rfl, by unfold Bw; go_grown⟩

set_option maxHeartbeats 400000 in
theorem len_any (b : Int) (s : ByteArray) (hs : s.size ≤ lim) (w : World) :
    Calls Try.prog 41 #[.agg #[.int .i64 b, .string s]] w fun e w' => e = .returned (.int .i64 s.size) ∧ Bw w w' := by
  unfold lim at hs
  go_enter Try.func41, Try.ntmps41
  go_wp2
  go_returns
  exact ⟨rfl, by unfold Bw; go_grown⟩

set_option maxHeartbeats 1000000 in
theorem sub_any (b : Int) (b0 : 0 ≤ b) (b1 : b ≤ 281474976710656) (s : ByteArray) (hs : s.size ≤ lim) (a n : Int) (w : World) :
    Calls Try.prog 36 #[.agg #[.int .i64 b, .string s], .int .i64 a, .int .i64 n] w fun e w' => e = .returned (.tuple #[.agg #[.int .i64 (subB s.size b a n), .string (subS s a n)], .int .i64 (subE s.size a n)]) ∧ Bw w w' := by
  unfold lim at hs
  by_cases ha : a < 0
  · have HK := hid (subE_arg (z := s.size) (a := a) (n := n) (.inl ha))
    go_enter Try.func36, Try.ntmps36
    go_wp2
    go_returns
    exact ⟨ret_win (subB_bad (by rw [HK.out]; decide)).symm (subS_bad (by rw [HK.out]; decide)).symm HK.out.symm, by unfold Bw; go_grown⟩
  · by_cases hn : n < 0
    · have HK := hid (subE_arg (z := s.size) (a := a) (n := n) (.inr hn))
      go_enter Try.func36, Try.ntmps36
      go_wp2
      go_returns
      exact ⟨ret_win (subB_bad (by rw [HK.out]; decide)).symm (subS_bad (by rw [HK.out]; decide)).symm HK.out.symm, by unfold Bw; go_grown⟩
    · by_cases hc : (s.size : Int) < a
      · have HK := hid (subE_cut (z := s.size) (a := a) (n := n) (by omega) (.inl hc))
        go_enter Try.func36, Try.ntmps36
        go_wp2
        go_returns
        exact ⟨ret_win (subB_bad (by rw [HK.out]; decide)).symm (subS_bad (by rw [HK.out]; decide)).symm HK.out.symm, by unfold Bw; go_grown⟩
      · by_cases hd : (s.size : Int) - a < n
        · have HK := hid (subE_cut (z := s.size) (a := a) (n := n) (by omega) (.inr hd))
          go_enter Try.func36, Try.ntmps36
          go_wp2
          go_returns
          exact ⟨ret_win (subB_bad (by rw [HK.out]; decide)).symm (subS_bad (by rw [HK.out]; decide)).symm HK.out.symm, by unfold Bw; go_grown⟩
        · have HK := hid (subE_ok (z := s.size) (a := a) (n := n) (by omega) (by omega))
          obtain ⟨p, rfl⟩ := Int.eq_ofNat_of_zero_le (show 0 ≤ a by omega)
          obtain ⟨k, rfl⟩ := Int.eq_ofNat_of_zero_le (show 0 ≤ n by omega)
          go_enter Try.func36, Try.ntmps36
          go_wp2
          go_region
          go_wp2
          go_returns
          exact ⟨ret_win (subB_ok HK.out).symm (subS_ok HK.out).symm HK.out.symm, by unfold Bw; go_grown⟩

end Go.Proofs.Ytciaebhkemdilab
/- Plain facts on blocks of bytes, and on the bytes of a number (no program in them). -/
namespace Go.Proofs.Ytciaebhkemdilab
open Go.RowKit

/-- d bytes, byte j being f j. -/
def fill (d : Nat) (f : Nat → Int) : Array Value := ((List.range d).map fun j => Value.int .u8 (f j)).toArray
def strOf (d : Nat) (f : Nat → Int) : List UInt8 := (List.range d).map fun j => UInt8.ofNat (f j).toNat
theorem strOf_len (d : Nat) (f : Nat → Int) : (strOf d f).length = d := by simp [strOf]
theorem fill_congr {d : Nat} {f g : Nat → Int} (h : ∀ j, j < d → f j = g j) : fill d f = fill d g := by
  unfold fill
  congr 1
  apply List.map_congr_left
  intro j hj
  rw [h j (List.mem_range.1 hj)]
theorem strOf_congr {d : Nat} {f g : Nat → Int} (h : ∀ j, j < d → f j = g j) : strOf d f = strOf d g := by
  unfold strOf
  apply List.map_congr_left
  intro j hj
  rw [h j (List.mem_range.1 hj)]
theorem fill_get (d : Nat) (f : Nat → Int) (k : Nat) (h : k < d) : (fill d f)[k]? = some (.int .u8 (f k)) := by
  simp [fill, h]
theorem fill_zero (d : Nat) : madeCells #[Value.int .u8 0] d = fill d fun _ => 0 := by
  apply Array.ext
  · simp [madeCells, fill]
  · intro i h1 h2
    simp [madeCells, fill, Nat.mod_one]
theorem fill_set (d : Nat) (f : Nat → Int) (k : Nat) (v : Int) : (fill d f).setIfInBounds k (.int .u8 v) = fill d fun j => if j = k then v else f j := by
  apply Array.ext
  · simp [fill]
  · intro i h1 h2
    simp only [fill, Array.size_setIfInBounds, List.size_toArray, List.length_map, List.length_range] at h1 h2
    simp only [fill, List.getElem_toArray, List.getElem_map, List.getElem_range]
    by_cases e : k = i
    · subst e; simp
    · simp [e, Ne.symm e]

theorem conv_fill {P : Program} (w : World) (src dst e : TypeId) (hs : P.underlying src = some (.slice e)) (he : P.underlying e = some (.int .u8)) (hd : P.underlying dst = some .string)
    {g t d c : Nat} {f : Nat → Int} (h : Has w g t (fill d f)) (hf : ∀ j, j < d → 0 ≤ f j ∧ f j < 256) :
    (convert src dst (.slice (some ⟨g, 0, none⟩) d c)).run P w = .ok (.string ⟨(strOf d f).toArray⟩) w := by
  have hl := strOf_len d f
  have := run_convert_bytes_back (P := P) w src dst e ⟨g, 0, none⟩ c (strOf d f) hs he hd (fun j hj => by
    have hj' : j < d := by rw [hl] at hj; exact hj
    have e0 : (Addr.add ⟨g, 0, none⟩ j) = ⟨g, j, none⟩ := by unfold Addr.add; split <;> simp_all
    rw [e0, h.cell, fill_get d f j hj']
    have hb := hf j hj'
    simp [strOf]
    omega)
  rw [hl] at this
  exact this

end Go.Proofs.Ytciaebhkemdilab
/- What win's byte orders return: a function value that tells by how many bits each byte is shifted (contracts of the functions; widths of 1, 2, 4 and 8 bytes). -/
namespace Go.Proofs.Ytciaebhkemdilab
open Go.RowKit
set_option linter.unusedVariables false

set_option maxHeartbeats 400000 in
theorem big_any (width i : Int) (w0 : 1 ≤ width) (w1 : width ≤ 8) (i0 : 0 ≤ i) (i1 : i < width) (a : Addr) (w : World) (hc : w.cell? a = some (.int .i64 width)) :
    Calls Try.prog 59 #[.int .i64 i, .pointer (some a)] w fun e w' => e = .returned (.int .i64 (8 * (width - 1 - i))) ∧ w = w' := by
  go_enter Try.func59, Try.ntmps59
  go_wp2
  go_returns
  exact ⟨rfl, rfl⟩

set_option maxHeartbeats 400000 in
theorem little_any (i : Int) (i0 : 0 ≤ i) (i1 : i < 8) (w : World) :
    Calls Try.prog 60 #[.int .i64 i] w fun e w' => e = .returned (.int .i64 (8 * i)) ∧ w = w' := by
  go_enter Try.func60, Try.ntmps60
  go_wp2
  go_returns
  exact ⟨rfl, rfl⟩

set_option maxHeartbeats 400000 in
theorem order_big (width : Int) (w : World) :
    Calls Try.prog 55 #[.int .i64 width, .bool true] w fun e w' => e = .returned (.func (.func 59) #[] #[.pointer (some ⟨w.heap.size, 0, none⟩)]) ∧ w.alloc (.cells #[.int .i64 width] 3) = w' := by
  have hmf : ∀ (fn : Fn) (first cap : Array Value) (w : World), (Instr.makeFunc fn first cap).run Try.prog w = .ok (.func fn first cap) w := fun _ _ _ _ => rfl
  go_enter Try.func55, Try.ntmps55
  go_wp2
  go_returns
  exact ⟨rfl, rfl⟩

set_option maxHeartbeats 400000 in
theorem order_little (width : Int) (w : World) :
    Calls Try.prog 55 #[.int .i64 width, .bool false] w fun e w' => e = .returned (.func (.func 60) #[] #[]) ∧ w.alloc (.cells #[.int .i64 width] 3) = w' := by
  have hmf : ∀ (fn : Fn) (first cap : Array Value) (w : World), (Instr.makeFunc fn first cap).run Try.prog w = .ok (.func fn first cap) w := fun _ _ _ _ => rfl
  go_enter Try.func55, Try.ntmps55
  go_wp2
  go_returns
  exact ⟨rfl, rfl⟩

end Go.Proofs.Ytciaebhkemdilab
/- What win's and the document's Bytes return, for every number below 2^64, every width and both orders (contracts of the functions). -/
namespace Go.Proofs.Ytciaebhkemdilab
open Go.RowKit
set_option linter.unusedVariables false

theorem u8info : (Try.prog.info? 5).map (fun i => (i.zero, i.size, i.bytes)) = some (some (.int .u8 0), 1, 1) := by kernel_rfl

/-- Byte j of the d bytes of m, the highest one first if big. -/
def byteAt (m d : Nat) (big : Bool) (j : Nat) : Int := (m : Int) / 2 ^ (8 * (if big then d - 1 - j else j)) % 256
theorem byteAt_bd (m d : Nat) (big : Bool) (j : Nat) : 0 ≤ byteAt m d big j ∧ byteAt m d big j < 256 := by unfold byteAt; omega
def upto (m d : Nat) (big : Bool) (k : Nat) : Array Value := fill d fun j => if j < k then byteAt m d big j else 0
theorem upto_zero (m d : Nat) (big : Bool) : madeCells #[Value.int .u8 0] d = upto m d big 0 := by rw [fill_zero]; exact fill_congr fun j _ => by simp
theorem upto_full (m d : Nat) (big : Bool) : upto m d big d = fill d (byteAt m d big) := fill_congr fun j hj => by simp [hj]
theorem upto_get (m d : Nat) (big : Bool) (k : Nat) (h : k < d) : (upto m d big k)[k]? = some (.int .u8 0) := by rw [upto, fill_get d _ k h]; simp
theorem upto_set (m d : Nat) (big : Bool) (k : Nat) : (upto m d big k).setIfInBounds k (.int .u8 (byteAt m d big k)) = upto m d big (k + 1) := by
  rw [upto, fill_set]
  refine fill_congr fun j hj => ?_
  by_cases e : j = k
  · subst e; simp
  · by_cases l : j < k
    · simp [e, l, Nat.lt_succ_of_lt l]
    · simp [e, l, show ¬ j < k + 1 by omega]
def bytesS (m d : Nat) (big : Bool) : ByteArray := ⟨(strOf d (byteAt m d big)).toArray⟩
def bytesE (m : Nat) (d : Int) : Int := if widB d = true then (if m / 2 ^ (8 * d.toNat) = 0 then 0 else 10) else 1
def bytesV (m : Nat) (d : Int) (big : Bool) : ByteArray := if bytesE m d = 0 then bytesS m d.toNat big else .empty
theorem wid_cases {d : Int} (h : widB d = true) : ∃ k : Nat, d = (k : Int) ∧ (k = 1 ∨ k = 2 ∨ k = 4 ∨ k = 8) := by
  simp only [widB, decide_eq_true_eq] at h
  exact ⟨d.toNat, by omega, by omega⟩
theorem bytesE_bad {m : Nat} {d : Int} (h : widB d = false) : bytesE m d = 1 := by simp [bytesE, h]
theorem bytesE_field {m d : Nat} (h : widB (d : Int) = true) (k : ¬ m / 2 ^ (8 * d) = 0) : bytesE m d = 10 := by
  unfold bytesE
  rw [if_pos h, Int.toNat_natCast, if_neg k]
theorem bytesE_ok {m d : Nat} (h : widB (d : Int) = true) (k : m / 2 ^ (8 * d) = 0) : bytesE m d = 0 := by
  unfold bytesE
  rw [if_pos h, Int.toNat_natCast, if_pos k]
theorem bytesV_bad {m : Nat} {d : Int} {big : Bool} (h : bytesE m d ≠ 0) : bytesV m d big = .empty := if_neg h
theorem bytesV_ok {m d : Nat} {big : Bool} (h : bytesE m d = 0) : bytesV m d big = bytesS m d big := by rw [bytesV, if_pos h, Int.toNat_natCast]
theorem shr_cast (m e : Nat) : (m : Int) / 2 ^ e = ((m / 2 ^ e : Nat) : Int) := by simp
theorem shr_test {m e : Nat} {b : Bool} (h : ((m : Int) / 2 ^ e != 0) = b) : (m / 2 ^ e = 0) ↔ b = false := by
  rw [shr_cast] at h
  subst h
  rw [bne_eq_false_iff_eq]
  omega
/-- The number without its k lowest bytes. -/
def low (m k : Nat) : Nat := m / 256 ^ k
theorem low_zero (m : Nat) : low m 0 = m := by simp [low]
theorem low_succ (m k : Nat) : (low m (k + 1) : Int) = (low m k : Int) / 256 := by
  have : low m (k + 1) = low m k / 256 := by rw [low, low, Nat.pow_succ, Nat.div_div_eq_div_mul]
  omega
theorem low_le (m k : Nat) : low m k ≤ m := Nat.div_le_self _ _
theorem low_byte (m k : Nat) : (low m k : Int) % 256 = (m : Int) / 2 ^ (8 * k) % 256 := by
  rw [shr_cast, low, show (256 : Nat) = 2 ^ 8 from rfl, ← Nat.pow_mul]
theorem low_little (m d k : Nat) : (low m k : Int) % 256 = byteAt m d false k := by rw [low_byte]; simp [byteAt]
theorem low_big (m d k : Nat) (h : k < d) : (low m k : Int) % 256 = byteAt m d true (d - 1 - k) := by
  rw [low_byte, byteAt, if_pos rfl, show d - 1 - (d - 1 - k) = k by omega]
theorem low_zero_iff (m d : Nat) : low m d = 0 ↔ m / 2 ^ (8 * d) = 0 := by rw [low, show (256 : Nat) = 2 ^ 8 from rfl, ← Nat.pow_mul]
/-- The k last bytes are filled in. -/
def downto (m d k : Nat) : Array Value := fill d fun j => if d - 1 - j < k then byteAt m d true j else 0
theorem downto_zero (m d : Nat) : madeCells #[Value.int .u8 0] d = downto m d 0 := by rw [fill_zero]; exact fill_congr fun j _ => by simp
theorem downto_full (m d : Nat) : downto m d d = fill d (byteAt m d true) := fill_congr fun j hj => by simp [show d - 1 - j < d by omega]
theorem downto_get (m d k : Nat) (h : k < d) : (downto m d k)[d - 1 - k]? = some (.int .u8 0) := by
  rw [downto, fill_get d _ _ (by omega)]; simp [show ¬ d - 1 - (d - 1 - k) < k by omega]
theorem downto_set (m d k : Nat) (h : k < d) : (downto m d k).setIfInBounds (d - 1 - k) (.int .u8 (byteAt m d true (d - 1 - k))) = downto m d (k + 1) := by
  rw [downto, fill_set]
  refine fill_congr fun j hj => ?_
  by_cases e : j = d - 1 - k
  · subst e; simp [show d - 1 - (d - 1 - k) < k + 1 by omega]
  · by_cases l : d - 1 - j < k
    · simp [e, l, Nat.lt_succ_of_lt l]
    · simp [e, l, show ¬ d - 1 - j < k + 1 by omega]

set_option maxRecDepth 100000 in
set_option maxHeartbeats 1000000 in
theorem bytes_big (m d : Nat) (hd : 1 ≤ d) (hd8 : d ≤ 8) (hw : widB (d : Int) = true) (w : World) :
    Calls Try.prog 46 #[.int .u64 m, .int .i64 d, .bool true] w fun e w' => e = .returned (.tuple #[.string (bytesV m d true), .int .i64 (bytesE m d)]) ∧ Bw w w' := by
  obtain ⟨i0, hi, hz0, hz1, hz2⟩ := info_parts u8info
  have hmk := fun (w : World) => run_make (P := Try.prog) w 38 5 i0 (.int .u8 0) Try.underlying38 hi hz0 .i64 .i64 (d : Int) (d : Int) (by omega) (by omega) (by rw [hz2]; omega) (by omega)
  have hfull := upto_full m d true
  have Hfull := hid hfull
  clear hfull
  have HW := hid hw
  go_enter Try.func46, Try.ntmps46
  go_wp2_with (first | (go_at_call 53; refine (isWidth_any _ _).mono ?_; rintro e w' ⟨rfl, rfl⟩) | (go_at_call 55; refine (order_big _ _).mono ?_; rintro e w' ⟨rfl, rfl⟩))
  · go_returns
    have ht : ((m : Int) / 2 ^ (8 * d) != 0) = true := by assumption
    have hE := bytesE_field HW.out (fun h => by have := (shr_test ht).1 h; cases this)
    exact ⟨ret_str (bytesV_bad (by rw [hE]; decide)).symm hE.symm, Bw.refl _⟩
  · have ht : ((m : Int) / 2 ^ (8 * d) != 0) = false := by assumption
    have HE := hid (bytesE_ok HW.out ((shr_test ht).2 rfl))
    clear hmk ht
    go_loopw [26] (fun i wr => ∃ k : Nat, k ≤ d ∧ i = .int .i64 k ∧ Has wr w.heap.size 3 #[.int .i64 d] ∧ Has wr (w.heap.size + 1) 5 (upto m d true k) ∧ Below w.heap.size w wr)
      (fun i _ => d - (intOf i).toNat)
    case atStart =>
      refine ⟨0, Nat.zero_le _, rfl, (Has.new w _ _).alloc _, ?_, ((Below.refl _ _).alloc (Nat.le_refl _) _).alloc (by simp) _⟩
      rw [← upto_zero]
      have := Has.new (w.alloc (Obj.cells #[Value.int .i64 ↑d] 3)) 5 (madeCells #[Value.int .u8 0] d)
      simpa using this
    case round =>
      obtain ⟨k, hk, rfl, hA, hB, hbel⟩ := hrel
      by_cases hlt : k < d
      · have hcA := hA.cell 0
        have hcB := hB.cell k
        rw [upto_get m d true k hlt] at hcB
        have hfB := hB.frozen k
        go_wp2_with (go_at_call 59; refine (big_any d k (by omega) (by omega) (by omega) (by omega) _ _ ?_).mono ?_; exact hcA; rintro e w' ⟨rfl, rfl⟩)
        all_goals go_roundw
        case rel =>
          refine ⟨k + 1, by omega, by go_num, hA.far (by simp) _, ?_, hbel.setCell (by simp) _⟩
          have h1 := hB.put k (.int .u8 (byteAt m d true k))
          rw [upto_set] at h1
          exact h1
        case measure => simp [intOf]; omega
      · obtain rfl : k = d := by omega
        rw [Hfull.out] at hB
        have hcv := conv_fill (P := Try.prog) wr 38 9 5 Try.underlying38 Try.underlying5 Try.underlying9 (c := k) hB (fun j _ => byteAt_bd m k true j)
        go_wp2
        go_returns
        exact ⟨ret_str (bytesV_ok HE.out).symm HE.out.symm, Bw.at_end hbel⟩

set_option maxRecDepth 100000 in
set_option maxHeartbeats 1000000 in
theorem bytes_little (m d : Nat) (hd : 1 ≤ d) (hd8 : d ≤ 8) (hw : widB (d : Int) = true) (w : World) :
    Calls Try.prog 46 #[.int .u64 m, .int .i64 d, .bool false] w fun e w' => e = .returned (.tuple #[.string (bytesV m d false), .int .i64 (bytesE m d)]) ∧ Bw w w' := by
  obtain ⟨i0, hi, hz0, hz1, hz2⟩ := info_parts u8info
  have hmk := fun (w : World) => run_make (P := Try.prog) w 38 5 i0 (.int .u8 0) Try.underlying38 hi hz0 .i64 .i64 (d : Int) (d : Int) (by omega) (by omega) (by rw [hz2]; omega) (by omega)
  have hfull := upto_full m d false
  have Hfull := hid hfull
  clear hfull
  have HW := hid hw
  go_enter Try.func46, Try.ntmps46
  go_wp2_with (first | (go_at_call 53; refine (isWidth_any _ _).mono ?_; rintro e w' ⟨rfl, rfl⟩) | (go_at_call 55; refine (order_little _ _).mono ?_; rintro e w' ⟨rfl, rfl⟩))
  · go_returns
    have ht : ((m : Int) / 2 ^ (8 * d) != 0) = true := by assumption
    have hE := bytesE_field HW.out (fun h => by have := (shr_test ht).1 h; cases this)
    exact ⟨ret_str (bytesV_bad (by rw [hE]; decide)).symm hE.symm, Bw.refl _⟩
  · have ht : ((m : Int) / 2 ^ (8 * d) != 0) = false := by assumption
    have HE := hid (bytesE_ok HW.out ((shr_test ht).2 rfl))
    clear hmk ht
    go_loopw [26] (fun i wr => ∃ k : Nat, k ≤ d ∧ i = .int .i64 k ∧ Has wr (w.heap.size + 1) 5 (upto m d false k) ∧ Below w.heap.size w wr)
      (fun i _ => d - (intOf i).toNat)
    case atStart =>
      refine ⟨0, Nat.zero_le _, rfl, ?_, ((Below.refl _ _).alloc (Nat.le_refl _) _).alloc (by simp) _⟩
      rw [← upto_zero]
      have := Has.new (w.alloc (Obj.cells #[Value.int .i64 ↑d] 3)) 5 (madeCells #[Value.int .u8 0] d)
      simpa using this
    case round =>
      obtain ⟨k, hk, rfl, hB, hbel⟩ := hrel
      by_cases hlt : k < d
      · skip
        have hcB := hB.cell k
        rw [upto_get m d false k hlt] at hcB
        have hfB := hB.frozen k
        go_wp2_with (go_at_call 60; refine (little_any k (by omega) (by omega) _).mono ?_; rintro e w' ⟨rfl, rfl⟩)
        all_goals go_roundw
        case rel =>
          refine ⟨k + 1, by omega, by go_num, ?_, hbel.setCell (by simp) _⟩
          have h1 := hB.put k (.int .u8 (byteAt m d false k))
          rw [upto_set] at h1
          exact h1
        case measure => simp [intOf]; omega
      · obtain rfl : k = d := by omega
        rw [Hfull.out] at hB
        have hcv := conv_fill (P := Try.prog) wr 38 9 5 Try.underlying38 Try.underlying5 Try.underlying9 (c := k) hB (fun j _ => byteAt_bd m k false j)
        go_wp2
        go_returns
        exact ⟨ret_str (bytesV_ok HE.out).symm HE.out.symm, Bw.at_end hbel⟩

set_option maxHeartbeats 1000000 in
theorem bytes_any (m : Nat) (d : Int) (big : Bool) (w : World) :
    Calls Try.prog 46 #[.int .u64 m, .int .i64 d, .bool big] w fun e w' => e = .returned (.tuple #[.string (bytesV m d big), .int .i64 (bytesE m d)]) ∧ Bw w w' := by
  by_cases hw : widB d = true
  · obtain ⟨k, rfl, hk⟩ := wid_cases hw
    cases big
    · exact bytes_little m k (by omega) (by omega) hw w
    · exact bytes_big m k (by omega) (by omega) hw w
  · have hw1 : widB d = false := by simpa using hw
    have HE := hid (bytesE_bad (m := m) hw1)
    clear hw
    go_enter Try.func46, Try.ntmps46
    go_wp2_with (go_at_call 53; refine (isWidth_any _ _).mono ?_; rintro e w' ⟨rfl, rfl⟩)
    go_returns
    exact ⟨ret_str (bytesV_bad (by rw [HE.out]; decide)).symm HE.out.symm, Bw.refl _⟩

end Go.Proofs.Ytciaebhkemdilab
/- Plain facts on numbers that are read from bytes, either way round. -/
namespace Go.Proofs.Ytciaebhkemdilab
open Go.RowKit
set_option linter.unusedVariables false

/-- Byte i of a text; 0 beyond it. -/
def bt (s : ByteArray) (i : Nat) : Nat := if h : i < s.size then s[i].toNat else 0
theorem bt_eq (s : ByteArray) (i : Nat) (h : i < s.size) : bt s i = (s[i]'h).toNat := by simp [bt, h]
theorem bt_lt (s : ByteArray) (i : Nat) : bt s i < 256 := by
  unfold bt
  split
  · exact UInt8.toNat_lt _
  · omega
/-- The first k digits to the base 256, the highest one first. -/
def horn (f : Nat → Nat) : Nat → Nat
  | 0 => 0
  | k + 1 => horn f k * 256 + f k
theorem horn_lt (f : Nat → Nat) (hf : ∀ i, f i < 256) (k : Nat) : horn f k < 256 ^ k := by
  induction k with
  | zero => simp [horn]
  | succ k ih => rw [horn, Nat.pow_succ]; have := hf k; omega
theorem horn_le (f : Nat → Nat) (hf : ∀ i, f i < 256) (k : Nat) (hk : k ≤ 8) : horn f k ≤ 18446744073709551615 := by
  have h := horn_lt f hf k
  have h2 : 256 ^ k ≤ 256 ^ 8 := Nat.pow_le_pow_right (by omega) hk
  omega
theorem horn_congr {f g : Nat → Nat} (k : Nat) (h : ∀ i, i < k → f i = g i) : horn f k = horn g k := by
  induction k with
  | zero => rfl
  | succ k ih => rw [horn, horn, ih (fun i hi => h i (by omega)), h k (by omega)]
/-- The lowest one first. -/
def lit (f : Nat → Nat) : Nat → Nat
  | 0 => 0
  | k + 1 => lit f k + f k * 256 ^ k
theorem lit_lt (f : Nat → Nat) (hf : ∀ i, f i < 256) (k : Nat) : lit f k < 256 ^ k := by
  induction k with
  | zero => simp [lit]
  | succ k ih =>
    rw [lit, Nat.pow_succ]
    have := hf k
    have : f k * 256 ^ k ≤ 255 * 256 ^ k := Nat.mul_le_mul_right _ (by omega)
    omega
theorem lit_front (f : Nat → Nat) (k : Nat) : lit f (k + 1) = f 0 + 256 * lit (fun i => f (i + 1)) k := by
  induction k with
  | zero => simp [lit]
  | succ k ih =>
    rw [lit, ih, lit, Nat.mul_add, Nat.pow_succ]
    have : f (k + 1) * (256 ^ k * 256) = 256 * (f (k + 1) * 256 ^ k) := by rw [← Nat.mul_assoc, Nat.mul_comm]
    omega
theorem horn_rev (k : Nat) : ∀ f : Nat → Nat, horn (fun i => f (k - 1 - i)) k = lit f k := by
  induction k with
  | zero => intro f; rfl
  | succ k ih =>
    intro f
    rw [horn, lit_front, ← ih (fun i => f (i + 1))]
    have e : horn (fun i => f (k + 1 - 1 - i)) k = horn (fun i => f (k - 1 - i + 1)) k := horn_congr k fun i hi => by
      show f (k + 1 - 1 - i) = f (k - 1 - i + 1)
      rw [show k + 1 - 1 - i = k - 1 - i + 1 by omega]
    rw [e]
    simp
    omega

/-- The bytes from p on in the order in which the highest one comes first. -/
def dig (s : ByteArray) (p d : Nat) (big : Bool) (i : Nat) : Nat := bt s (if big then p + i else p + d - 1 - i)
theorem dig_lt (s : ByteArray) (p d : Nat) (big : Bool) (i : Nat) : dig s p d big i < 256 := bt_lt _ _
theorem dig_big (s : ByteArray) (p d i : Nat) (h : p + i < s.size) : dig s p d true i = (s[p + i]'h).toNat := by rw [dig, if_pos rfl, bt_eq]
theorem dig_little (s : ByteArray) (p d i : Nat) (h : p + d - 1 - i < s.size) : dig s p d false i = (s[p + d - 1 - i]'h).toNat := by rw [dig, if_neg (by decide), bt_eq]
/-- The number of the d bytes from p on. -/
def numAt (s : ByteArray) (p d : Nat) (big : Bool) : Nat := horn (dig s p d big) d
def uintE (z : Nat) (a d : Int) : Int := if widB d = true then subE z a d else 1
def uintV (s : ByteArray) (a d : Int) (big : Bool) : Int := if uintE s.size a d = 0 then (numAt s a.toNat d.toNat big : Int) else 0
theorem uintE_bad {z : Nat} {a d : Int} (h : widB d = false) : uintE z a d = 1 := by simp [uintE, h]
theorem uintE_sub {z : Nat} {a d : Int} (h : widB d = true) : uintE z a d = subE z a d := by simp [uintE, h]
theorem uintV_bad {s : ByteArray} {a d : Int} {big : Bool} (h : uintE s.size a d ≠ 0) : uintV s a d big = 0 := if_neg h
theorem uintV_ok {s : ByteArray} {a d : Int} {big : Bool} (h : uintE s.size a d = 0) : uintV s a d big = numAt s a.toNat d.toNat big := if_pos h
theorem ret_u {n m : Int} {e f : Int} (h : n = m) (k : e = f) : Ending.returned (.tuple #[.int .u64 n, .int .i64 e]) = .returned (.tuple #[.int .u64 m, .int .i64 f]) := by rw [h, k]

/-- What is shifted to its place beside what stands there: the highest byte first. -/
theorem or_big (f : Nat → Nat) (hf : ∀ i, f i < 256) (d k : Nat) (hk : k < d) :
    (horn f k * 256 ^ (d - k)) ||| (f k * 2 ^ (8 * (d - 1 - k))) = horn f (k + 1) * 256 ^ (d - (k + 1)) := by
  have e1 : 256 ^ (d - k) = 2 ^ (8 * (d - 1 - k) + 8) := by
    rw [show (256 : Nat) = 2 ^ 8 from rfl, ← Nat.pow_mul, show 8 * (d - k) = 8 * (d - 1 - k) + 8 by omega]
  have e2 : 256 ^ (d - (k + 1)) = 2 ^ (8 * (d - 1 - k)) := by
    rw [show (256 : Nat) = 2 ^ 8 from rfl, ← Nat.pow_mul, show 8 * (d - (k + 1)) = 8 * (d - 1 - k) by omega]
  rw [e1, e2, horn, Nat.add_mul, Nat.mul_comm (horn f k)]
  have hl : f k * 2 ^ (8 * (d - 1 - k)) < 2 ^ (8 * (d - 1 - k) + 8) := by
    rw [Nat.pow_add, Nat.mul_comm]
    exact Nat.mul_lt_mul_of_pos_left (by have := hf k; omega) (Nat.two_pow_pos _)
  have e3 : 2 ^ (8 * (d - 1 - k) + 8) * horn f k = horn f k * 256 * 2 ^ (8 * (d - 1 - k)) := by
    rw [Nat.pow_add, Nat.mul_comm, Nat.mul_comm (2 ^ (8 * (d - 1 - k))) (2 ^ 8), ← Nat.mul_assoc]
  rw [← Nat.two_pow_add_eq_or_of_lt hl, e3]
theorem or_little (f : Nat → Nat) (hf : ∀ i, f i < 256) (k : Nat) : lit f k ||| (f k * 2 ^ (8 * k)) = lit f (k + 1) := by
  have h := lit_lt f hf k
  have e : 256 ^ k = 2 ^ (8 * k) := by rw [show (256 : Nat) = 2 ^ 8 from rfl, ← Nat.pow_mul]
  rw [e] at h
  show _ = lit f k + f k * 256 ^ k
  rw [e, Nat.or_comm, Nat.mul_comm (f k), ← Nat.two_pow_add_eq_or_of_lt h]
  exact Nat.add_comm _ _

theorem horn_wrap (f : Nat → Nat) (hf : ∀ i, f i < 256) (k : Nat) (hk : k + 1 ≤ 8) {b : Nat} (hb : f k = b) : IntKind.u64.wrap (IntKind.u64.wrap ((horn f k : Int) * 256) + IntKind.u64.wrap (b : Int)) = (horn f (k + 1) : Int) := by
  have h := horn_le f hf (k + 1) hk
  have e : horn f (k + 1) = horn f k * 256 + f k := rfl
  have := hf k
  subst hb
  rw [IntKind.wrap_u64, IntKind.wrap_u64, IntKind.wrap_u64]
  omega
theorem u64_same {a b : Int} (h : a = b) : Value.int .u64 a = .int .u64 b := by rw [h]







end Go.Proofs.Ytciaebhkemdilab
/- What win's number and Uint return. -/
namespace Go.Proofs.Ytciaebhkemdilab
open Go.RowKit
set_option linter.unusedVariables false

theorem sub_fits (b : Int) (b0 : 0 ≤ b) (b1 : b ≤ 281474976710656) (s : ByteArray) (hs : s.size ≤ lim) (p k : Nat) (hp : p + k ≤ s.size) (T : ByteArray) (hT : Hid (s.extract p (p + k) = T)) (w : World) :
    Calls Try.prog 36 #[.agg #[.int .i64 b, .string s], .int .i64 p, .int .i64 k] w fun e w' => e = .returned (.tuple #[.agg #[.int .i64 (b + p), .string T], .int .i64 0]) ∧ Bw w w' := by
  have hE : subE s.size (p : Int) (k : Int) = 0 := subE_ok (by omega) (by omega)
  have h := sub_any b b0 b1 s hs p k w
  rw [subB_ok hE, subS_ok hE, hE] at h
  simp only [Int.toNat_natCast] at h
  rw [hT.out] at h
  exact h
theorem bt_extract (s : ByteArray) (p k i : Nat) (hp : p + k ≤ s.size) (hi : i < k) : bt (s.extract p (p + k)) i = bt s (p + i) := by
  have hz : (s.extract p (p + k)).size = k := by simp; omega
  rw [bt_eq _ i (by omega), bt_eq s (p + i) (by omega), ByteArray.getElem_extract]
theorem wrap_shl {b : Nat} (hb : b < 256) (e : Nat) (he : e ≤ 56) : IntKind.u64.wrap ((b : Int) * 2 ^ e) = ((b * 2 ^ e : Nat) : Int) := by
  have h2 : 2 ^ e ≤ 2 ^ 56 := Nat.pow_le_pow_right (by omega) he
  have h3 : b * 2 ^ e ≤ 255 * 2 ^ 56 := Nat.mul_le_mul (by omega) h2
  have e1 : ((b * 2 ^ e : Nat) : Int) = (b : Int) * 2 ^ e := by simp
  rw [← e1, IntKind.wrap_u64]
  omega

/-- What stands in the number after k bytes. -/
def accB (T : ByteArray) (d : Nat) (big : Bool) (k : Nat) : Nat := if big then horn (bt T) k * 256 ^ (d - k) else lit (bt T) k
theorem accB_zero (T : ByteArray) (d : Nat) (big : Bool) : accB T d big 0 = 0 := by cases big <;> simp [accB, horn, lit]
theorem accB_lt (T : ByteArray) (d : Nat) (big : Bool) (k : Nat) (hk : k ≤ d) (hd : d ≤ 8) : accB T d big k < 18446744073709551616 := by
  have h8 : 256 ^ d ≤ 256 ^ 8 := Nat.pow_le_pow_right (by omega) hd
  cases big
  · have h := lit_lt (bt T) (bt_lt T) k
    have h2 : 256 ^ k ≤ 256 ^ d := Nat.pow_le_pow_right (by omega) hk
    simp only [accB, Bool.false_eq_true, if_false]
    omega
  · have h := horn_lt (bt T) (bt_lt T) k
    have h2 : horn (bt T) k * 256 ^ (d - k) < 256 ^ k * 256 ^ (d - k) := Nat.mul_lt_mul_of_pos_right h (Nat.pow_pos (by omega))
    rw [← Nat.pow_add, show k + (d - k) = d by omega] at h2
    simp only [accB, if_true]
    omega
theorem byte_wrap {b : Nat} (h : b < 256) : IntKind.u64.wrap (b : Int) = b := by rw [IntKind.wrap_u64]; omega
theorem or_step {T : ByteArray} {d k b : Nat} {big : Bool} (hk : k < d) (hd : d ≤ 8) (hb : bt T k = b) (e : Nat) (he : e = if big then 8 * (d - 1 - k) else 8 * k) :
    bits .or .u64 (accB T d big k : Int) (IntKind.u64.wrap (IntKind.u64.wrap (b : Int) * 2 ^ e)) = (accB T d big (k + 1) : Int) := by
  have hb1 : b < 256 := hb ▸ bt_lt T k
  have he1 : e ≤ 56 := by subst he; split <;> omega
  have hz : b * 2 ^ e ≤ 255 * 2 ^ 56 := Nat.mul_le_mul (by omega) (Nat.pow_le_pow_right (by omega) he1)
  rw [byte_wrap hb1, wrap_shl hb1 e he1, u64_or_nat _ _ (accB_lt T d big k (by omega) hd) (by omega)]
  subst he hb
  cases big
  · simp only [accB, Bool.false_eq_true, if_false]
    rw [or_little (bt T) (bt_lt T) k]
  · simp only [accB, if_true]
    rw [or_big (bt T) (bt_lt T) d k hk]
theorem accB_full (s : ByteArray) (p d : Nat) (big : Bool) (hp : p + d ≤ s.size) (T : ByteArray) (hT : s.extract p (p + d) = T) : accB T d big d = numAt s p d big := by
  subst hT
  cases big
  · simp only [accB, Bool.false_eq_true, if_false, numAt]
    rw [← horn_rev]
    refine horn_congr d fun i hi => ?_
    rw [bt_extract s p d _ hp (by omega), dig, if_neg (by decide), show p + (d - 1 - i) = p + d - 1 - i by omega]
  · simp only [accB, if_true, numAt, Nat.sub_self, Nat.pow_zero, Nat.mul_one]
    refine horn_congr d fun i hi => ?_
    rw [bt_extract s p d _ hp hi, dig, if_pos rfl]

set_option maxRecDepth 100000 in
set_option maxHeartbeats 1000000 in
theorem number_big (b : Int) (b0 : 0 ≤ b) (b1 : b ≤ 281474976710656) (s : ByteArray) (hs : s.size ≤ lim) (p d : Nat) (hd : 1 ≤ d) (hd8 : d ≤ 8) (hp : p + d ≤ s.size)
    (T : ByteArray) (hT : Hid (s.extract p (p + d) = T)) (hT1 : T.size ≤ d) (hT2 : d ≤ T.size) (c : Addr) (w : World) (hb : c.block < w.heap.size) (hc : w.cell? c = some (.int .i64 d)) :
    Calls Try.prog 54 #[.func (.func 36) #[.agg #[.int .i64 b, .string s]] #[], .int .i64 p, .int .i64 d, .func (.func 59) #[] #[.pointer (some c)]] w
      fun e w' => e = .returned (.tuple #[.int .u64 (numAt s p d true), .int .i64 0]) ∧ Bw w w' := by
  have Hs := hid hs
  have Hfull := hid (accB_full s p d true hp T hT.out)
  unfold lim at hs
  go_enter Try.func54, Try.ntmps54
  go_wp2_with (first | (go_at_call 36; refine (sub_fits b b0 b1 s Hs.out p d hp T hT _).mono ?_; rintro e w1 ⟨rfl, hw1⟩) | (go_at_call 41; refine (len_any _ _ (by unfold lim; omega) _).mono ?_; rintro e w2 ⟨rfl, hw2⟩))
  have hz1 : w.heap.size ≤ w1.heap.size := hw1.size
  have hbel2 : Below w.heap.size w w2 := (Below.alloc hw1 hz1 _).trans (Below.mono hw2 (by simp; omega))
  have hH2 : Has w2 w1.heap.size 57 #[.int .i64 (b + p), .string T] := (Has.new w1 _ _).below hw2 (by simp)
  clear hw1 hw2
  go_loopw [12, 26] (fun n i wr => ∃ k : Nat, k ≤ d ∧ n = .int .u64 (accB T d true k) ∧ i = .int .i64 k ∧ Has wr w1.heap.size 57 #[.int .i64 (b + p), .string T] ∧ Below w.heap.size w wr)
    (fun _ i _ => d - (intOf i).toNat)
  case atStart => exact ⟨0, Nat.zero_le _, by rw [accB_zero]; rfl, rfl, hH2, hbel2⟩
  case round =>
    obtain ⟨k, hk, rfl, rfl, hH, hbel⟩ := hrel
    have hcc := (hbel.cell hb).trans hc
    have hc1 := hH.cell 1
    have hcT : wr.cell? ⟨w1.heap.size, 1, none⟩ = some (.string T) := hc1
    clear hc1 hH2 hbel2
    by_cases hlt : k < d
    · have E1 := hid (or_step (T := T) (d := d) (k := k) (big := true) hlt hd8 (bt_eq T k (by omega)) (8 * (d - 1 - k)) (by simp))
      clear hc
      go_wp2_with fail
      go_quiet ((go_at_call 59; refine Calls.quiet_of_same ((big_any d k (by omega) (by omega) (by omega) (by omega) _ _ ?_).mono fun _ _ hh => ⟨hh.1, hh.2.symm⟩); exact hcc))
      go_wp2
      all_goals go_roundw
      case rel => exact ⟨k + 1, by omega, u64_same E1.out, by go_num, hH.drewN _, below_drewN hbel _⟩
      case measure => simp [intOf]; omega
    · obtain rfl : k = d := by omega
      clear hc
      clear hlt hk
      go_wp2
      go_returns
      exact ⟨ret_u (by rw [Hfull.out]) rfl, Bw.at_end hbel⟩

set_option maxRecDepth 100000 in
set_option maxHeartbeats 1000000 in
theorem number_little (b : Int) (b0 : 0 ≤ b) (b1 : b ≤ 281474976710656) (s : ByteArray) (hs : s.size ≤ lim) (p d : Nat) (hd : 1 ≤ d) (hd8 : d ≤ 8) (hp : p + d ≤ s.size)
    (T : ByteArray) (hT : Hid (s.extract p (p + d) = T)) (hT1 : T.size ≤ d) (hT2 : d ≤ T.size) (w : World) :
    Calls Try.prog 54 #[.func (.func 36) #[.agg #[.int .i64 b, .string s]] #[], .int .i64 p, .int .i64 d, .func (.func 60) #[] #[]] w
      fun e w' => e = .returned (.tuple #[.int .u64 (numAt s p d false), .int .i64 0]) ∧ Bw w w' := by
  have Hs := hid hs
  have Hfull := hid (accB_full s p d false hp T hT.out)
  unfold lim at hs
  go_enter Try.func54, Try.ntmps54
  go_wp2_with (first | (go_at_call 36; refine (sub_fits b b0 b1 s Hs.out p d hp T hT _).mono ?_; rintro e w1 ⟨rfl, hw1⟩) | (go_at_call 41; refine (len_any _ _ (by unfold lim; omega) _).mono ?_; rintro e w2 ⟨rfl, hw2⟩))
  have hz1 : w.heap.size ≤ w1.heap.size := hw1.size
  have hbel2 : Below w.heap.size w w2 := (Below.alloc hw1 hz1 _).trans (Below.mono hw2 (by simp; omega))
  have hH2 : Has w2 w1.heap.size 57 #[.int .i64 (b + p), .string T] := (Has.new w1 _ _).below hw2 (by simp)
  clear hw1 hw2
  go_loopw [12, 26] (fun n i wr => ∃ k : Nat, k ≤ d ∧ n = .int .u64 (accB T d false k) ∧ i = .int .i64 k ∧ Has wr w1.heap.size 57 #[.int .i64 (b + p), .string T] ∧ Below w.heap.size w wr)
    (fun _ i _ => d - (intOf i).toNat)
  case atStart => exact ⟨0, Nat.zero_le _, by rw [accB_zero]; rfl, rfl, hH2, hbel2⟩
  case round =>
    obtain ⟨k, hk, rfl, rfl, hH, hbel⟩ := hrel
    skip
    have hc1 := hH.cell 1
    have hcT : wr.cell? ⟨w1.heap.size, 1, none⟩ = some (.string T) := hc1
    clear hc1 hH2 hbel2
    by_cases hlt : k < d
    · have E1 := hid (or_step (T := T) (d := d) (k := k) (big := false) hlt hd8 (bt_eq T k (by omega)) (8 * k) (by simp))
      skip
      go_wp2_with fail
      go_quiet ((go_at_call 60; refine Calls.quiet_of_same ((little_any k (by omega) (by omega) _).mono fun _ _ hh => ⟨hh.1, hh.2.symm⟩)))
      go_wp2
      all_goals go_roundw
      case rel => exact ⟨k + 1, by omega, u64_same E1.out, by go_num, hH.drewN _, below_drewN hbel _⟩
      case measure => simp [intOf]; omega
    · obtain rfl : k = d := by omega
      skip
      clear hlt hk
      go_wp2
      go_returns
      exact ⟨ret_u (by rw [Hfull.out]) rfl, Bw.at_end hbel⟩

set_option maxHeartbeats 1000000 in
theorem number_bad (b : Int) (b0 : 0 ≤ b) (b1 : b ≤ 281474976710656) (s : ByteArray) (hs : s.size ≤ lim) (a d : Int) (hE : (subE s.size a d != 0) = true) (f : Value) (w : World) :
    Calls Try.prog 54 #[.func (.func 36) #[.agg #[.int .i64 b, .string s]] #[], .int .i64 a, .int .i64 d, f] w
      fun e w' => e = .returned (.tuple #[.int .u64 0, .int .i64 (subE s.size a d)]) ∧ Bw w w' := by
  go_enter Try.func54, Try.ntmps54
  go_wp2_with (go_at_call 36; refine (sub_any b b0 b1 s hs a d _).mono ?_; rintro e w1 ⟨rfl, hw1⟩)
  go_returns
  exact ⟨rfl, Below.alloc hw1 hw1.size _⟩

end Go.Proofs.Ytciaebhkemdilab
/- Plain: a number that was written is read as it was. No program in it. -/
namespace Go.Proofs.Ytciaebhkemdilab
open Go.RowKit
set_option linter.unusedVariables false
theorem str_size (d : Nat) (f : Nat → Int) : (⟨(strOf d f).toArray⟩ : ByteArray).size = d := by
  show (strOf d f).toArray.size = d
  simp [strOf_len]
theorem str_bt (d : Nat) (f : Nat → Int) (j : Nat) (hj : j < d) (h0 : 0 ≤ f j) (h1 : f j < 256) : (bt ⟨(strOf d f).toArray⟩ j : Int) = f j := by
  have hl := str_size d f
  rw [bt_eq _ j (by omega)]
  show (((strOf d f).toArray[j]'(by simp [strOf_len, hj])).toNat : Int) = f j
  simp [strOf]
  omega
theorem bytesS_size (m d : Nat) (big : Bool) : (bytesS m d big).size = d := str_size d _
theorem bytesS_bt (m d : Nat) (big : Bool) (j : Nat) (hj : j < d) : bt (bytesS m d big) j = m / 2 ^ (8 * (if big then d - 1 - j else j)) % 256 := by
  have h := str_bt d (byteAt m d big) j hj (byteAt_bd m d big j).1 (byteAt_bd m d big j).2
  have e : (bt (bytesS m d big) j : Int) = byteAt m d big j := h
  unfold byteAt at e
  have e2 : (m : Int) / 2 ^ (8 * (if big then d - 1 - j else j)) % 256 = ((m / 2 ^ (8 * (if big then d - 1 - j else j)) % 256 : Nat) : Int) := by
    rw [shr_cast]
    rfl
  rw [e2] at e
  exact Int.ofNat.inj e
theorem horn_digits (m d : Nat) (hm : m < 256 ^ d) : ∀ k, k ≤ d → horn (fun i => m / 2 ^ (8 * (d - 1 - i)) % 256) k = m / 256 ^ (d - k) := by
  intro k
  induction k with
  | zero => intro _; rw [Nat.sub_zero, Nat.div_eq_of_lt hm]; rfl
  | succ k ih =>
    intro hk
    rw [horn, ih (by omega)]
    have e1 : (2 : Nat) ^ (8 * (d - 1 - k)) = 256 ^ (d - (k + 1)) := by
      rw [show (256 : Nat) = 2 ^ 8 from rfl, ← Nat.pow_mul, show 8 * (d - 1 - k) = 8 * (d - (k + 1)) by omega]
    have e2 : 256 ^ (d - k) = 256 ^ (d - (k + 1)) * 256 := by rw [← Nat.pow_succ, show d - k = d - (k + 1) + 1 by omega]
    rw [e1, e2, ← Nat.div_div_eq_div_mul]
    omega
theorem bt_append_left (a b : ByteArray) (j : Nat) (hj : j < a.size) : bt (a ++ b) j = bt a j := by
  rw [bt_eq _ j (by rw [ByteArray.size_append]; omega), bt_eq a j hj]
  rw [ByteArray.getElem_append_left hj]
theorem bt_append_right (a b : ByteArray) (j : Nat) (hj : j < b.size) : bt (a ++ b) (a.size + j) = bt b j := by
  rw [bt_eq _ _ (by rw [ByteArray.size_append]; omega), bt_eq b j hj]
  rw [ByteArray.getElem_append_right (by omega)]
  simp
theorem num_back (m d : Nat) (big : Bool) (a b : ByteArray) (hm : m / 2 ^ (8 * d) = 0) : numAt (a ++ bytesS m d big ++ b) a.size d big = m := by
  have hm2 : m < 256 ^ d := by
    have e : (256 : Nat) ^ d = 2 ^ (8 * d) := by rw [show (256 : Nat) = 2 ^ 8 from rfl, ← Nat.pow_mul]
    rw [e]
    exact (Nat.div_eq_zero_iff.1 hm).resolve_left (by have := Nat.two_pow_pos (8 * d); omega)
  have h := horn_digits m d hm2 d (by omega)
  rw [Nat.sub_self, Nat.pow_zero, Nat.div_one] at h
  rw [numAt, ← h]
  have key : ∀ j, j < d → bt (a ++ bytesS m d big ++ b) (a.size + j) = m / 2 ^ (8 * (if big then d - 1 - j else j)) % 256 := fun j hj => by
    have hz := bytesS_size m d big
    rw [bt_append_left _ _ _ (by rw [ByteArray.size_append]; omega), bt_append_right _ _ _ (by omega), bytesS_bt _ _ _ _ hj]
  refine horn_congr d fun i hi => ?_
  rw [h]
  cases big
  · rw [dig, if_neg (by decide), show a.size + d - 1 - i = a.size + (d - 1 - i) by omega, key (d - 1 - i) (by omega), if_neg (by decide)]
  · rw [dig, if_pos rfl, key i hi, if_pos rfl]
theorem ba_ext {a b : ByteArray} (h : a.data.toList = b.data.toList) : a = b := ByteArray.ext (Array.toList_inj.1 h)
theorem ext_list (s : ByteArray) (k e : Nat) : (s.extract k e).data.toList = (s.data.toList.drop k).take (e - k) := by simp [ByteArray.data_extract]
theorem app_list (a b : ByteArray) : (a ++ b).data.toList = a.data.toList ++ b.data.toList := by simp
theorem size_list (a : ByteArray) : a.size = a.data.toList.length := by simp
theorem ext_mid (a b c : ByteArray) (k n : Nat) (hk : k = a.size) (h : n = a.size + b.size) : (a ++ b ++ c).extract k n = b := by
  subst hk h
  apply ba_ext
  rw [ext_list, app_list, app_list, size_list, size_list, List.append_assoc, List.drop_left, Nat.add_sub_cancel_left, List.take_left]
theorem ext_pre (a b : ByteArray) (n : Nat) (h : n = a.size) : (a ++ b).extract 0 n = a := by
  subst h
  apply ba_ext
  rw [ext_list, app_list, size_list, List.drop_zero, Nat.sub_zero, List.take_left]
theorem ext_ext (s : ByteArray) (p a b : Nat) (hb : p + b ≤ s.size) : (s.extract p s.size).extract a b = s.extract (p + a) (p + b) := by
  apply ba_ext
  rw [ext_list, ext_list, ext_list, List.drop_take, List.take_take, List.drop_drop]
  congr 1
  omega
theorem ext_rest (s : ByteArray) (p a : Nat) (hp : p ≤ s.size) : (s.extract p s.size).extract a (s.extract p s.size).size = s.extract (p + a) s.size := by
  have h : (s.extract p s.size).size = s.size - p := by simp
  rw [h, ext_ext _ _ _ _ (by omega), show p + (s.size - p) = s.size by omega]
theorem rest_size (s : ByteArray) (p : Nat) : (s.extract p s.size).size = s.size - p := by simp
theorem bt_rest (s : ByteArray) (p i : Nat) (h : p + i < s.size) : bt (s.extract p s.size) i = bt s (p + i) := by
  have e : s.extract p s.size = s.extract p (p + (s.size - p)) := by congr 1; omega
  rw [e]
  exact bt_extract s p (s.size - p) i (by omega) (by omega)
theorem num_rest (s : ByteArray) (p a d : Nat) (big : Bool) (h : p + a + d ≤ s.size) : numAt (s.extract p s.size) a d big = numAt s (p + a) d big := by
  unfold numAt
  refine horn_congr d fun i hi => ?_
  cases big
  · rw [dig, dig, if_neg (by decide), if_neg (by decide), bt_rest _ _ _ (by omega), show p + (a + d - 1 - i) = p + a + d - 1 - i by omega]
  · rw [dig, dig, if_pos rfl, if_pos rfl, bt_rest _ _ _ (by omega), show p + (a + i) = p + a + i by omega]
theorem num_lt (s : ByteArray) (p d : Nat) (big : Bool) : numAt s p d big < 256 ^ d := horn_lt _ (dig_lt s p d big) d
end Go.Proofs.Ytciaebhkemdilab
/- Plain: RIFF files, their chunks, and sounds. No program in it. -/
namespace Go.Proofs.Ytciaebhkemdilab
open Go.RowKit
set_option linter.unusedVariables false
structure ChkR where
  typ : ByteArray
  dat : ByteArray
def okN (n : Nat) : Bool := decide (32 ≤ n) && decide (n ≤ 126)
/-- A type. -/
def typB (s : ByteArray) : Bool := (s.data.toList.all fun c => okN c.toNat) && decide (s.size = 4)
theorem typ_all {s : ByteArray} (h : ∀ i, i < s.size → okN (bt s i) = true) : typB s = decide (s.size = 4) := by
  unfold typB
  have : (s.data.toList.all fun c => okN c.toNat) = true := by
    rw [List.all_eq_true]
    intro c hc
    obtain ⟨i, hi, rfl⟩ := List.getElem_of_mem hc
    have hi' : i < s.size := by simpa using hi
    have := h i hi'
    rw [bt_eq s i hi'] at this
    exact this
  rw [this, Bool.true_and]
theorem typ_not {s : ByteArray} {i : Nat} (hi : i < s.size) (h : okN (bt s i) = false) : typB s = false := by
  unfold typB
  have : (s.data.toList.all fun c => okN c.toNat) = false := by
    rw [List.all_eq_false]
    refine ⟨s[i], ?_, ?_⟩
    · have : s[i] = s.data.toList[i]'(by simpa using hi) := by simp [ByteArray.getElem_eq_getElem_data]
      rw [this]
      exact List.getElem_mem _
    · rw [bt_eq s i hi] at h
      simp [h]
  rw [this, Bool.false_and]
theorem typ_size {s : ByteArray} (h : typB s = true) : s.size = 4 := by
  unfold typB at h
  rw [Bool.and_eq_true] at h
  exact of_decide_eq_true h.2
def pad (n : Nat) : Nat := n + n % 2
def num4 (s : ByteArray) (p : Nat) : Nat := numAt s p 4 false
theorem num4_lt (s : ByteArray) (p : Nat) : num4 s p < 4294967296 := num_lt s p 4 false
/-- The chunk that begins at p: what is wrong with it, the chunk, what is behind it. -/
def chkE (s : ByteArray) (p : Nat) : Int :=
  if s.size < p + 8 then 2 else if typB (s.extract p (p + 4)) = false then 3
  else if s.size < p + 8 + pad (num4 s (p + 4)) then 2
  else if num4 s (p + 4) % 2 = 1 ∧ bt s (p + 8 + num4 s (p + 4)) ≠ 0 then 3 else 0
def chkC (s : ByteArray) (p : Nat) : ChkR := ⟨s.extract p (p + 4), s.extract (p + 8) (p + 8 + num4 s (p + 4))⟩
def chkN (s : ByteArray) (p : Nat) : Nat := p + 8 + pad (num4 s (p + 4))
theorem chkE_0 {s : ByteArray} {p : Nat} (h : chkE s p = 0) : p + 8 ≤ s.size ∧ typB (s.extract p (p + 4)) = true ∧ chkN s p ≤ s.size := by
  unfold chkE at h
  unfold chkN
  by_cases h1 : s.size < p + 8
  · rw [if_pos h1] at h; cases h
  rw [if_neg h1] at h
  by_cases h2 : typB (s.extract p (p + 4)) = false
  · rw [if_pos h2] at h; cases h
  rw [if_neg h2] at h
  by_cases h3 : s.size < p + 8 + pad (num4 s (p + 4))
  · rw [if_pos h3] at h; cases h
  exact ⟨by omega, by simpa using h2, by omega⟩
def splGo (s : ByteArray) : Nat → Nat → List ChkR → Int × List ChkR
  | 0, _, acc => (0, acc)
  | f + 1, p, acc => if s.size ≤ p then (0, acc) else if chkE s p ≠ 0 then (chkE s p, []) else splGo s f (chkN s p) (acc ++ [chkC s p])
def riffT : ByteArray := ⟨#[82, 73, 70, 70]⟩
/-- What is wrong with the first twelve bytes. -/
def headE (s : ByteArray) : Int :=
  if s.size < 12 then 2 else if s.extract 0 4 ≠ riffT ∨ typB (s.extract 8 12) = false then 3
  else if s.size - 8 < num4 s 4 then 2 else if num4 s 4 < s.size - 8 then 3 else 0
def splitP (s : ByteArray) : ByteArray × List ChkR × Int :=
  if headE s ≠ 0 then (⟨#[]⟩, [], headE s)
  else if (splGo s s.size 12 []).1 ≠ 0 then (⟨#[]⟩, [], (splGo s s.size 12 []).1)
  else (s.extract 8 12, (splGo s s.size 12 []).2, 0)
/-! Joining. -/
def oddT (n : Nat) : ByteArray := if n % 2 = 1 then ⟨#[0]⟩ else ⟨#[]⟩
def chkT (c : ChkR) : ByteArray := c.typ ++ bytesS c.dat.size 4 false ++ c.dat ++ oddT c.dat.size
def bodyT : List ChkR → ByteArray
  | [] => ⟨#[]⟩
  | c :: r => chkT c ++ bodyT r
def sumP : List ChkR → Nat
  | [] => 0
  | c :: r => 8 + pad c.dat.size + sumP r
theorem sumP_snoc (l : List ChkR) (c : ChkR) : sumP (l ++ [c]) = sumP l + (8 + pad c.dat.size) := by
  induction l with
  | nil => simp [sumP]
  | cons x r ih => rw [List.cons_append, sumP, ih, sumP]; omega
theorem sumP_take {l : List ChkR} {k : Nat} (hk : k < l.length) : sumP (l.take (k + 1)) = sumP (l.take k) + (8 + pad l[k].dat.size) := by
  rw [List.take_succ_eq_append_getElem hk, sumP_snoc]
theorem sumP_le {l : List ChkR} {m : Nat} (h : ∀ c ∈ l, c.dat.size ≤ m) : sumP l ≤ l.length * (m + 9) := by
  induction l with
  | nil => simp [sumP]
  | cons c r ih =>
    have h1 := h c (by simp)
    have h2 := ih fun x hx => h x (by simp [hx])
    rw [sumP, List.length_cons, Nat.succ_mul]
    unfold pad
    omega
theorem nil_app (s : ByteArray) : (⟨#[]⟩ : ByteArray) ++ s = s := ba_ext (by simp)
theorem app_nil (s : ByteArray) : s ++ (⟨#[]⟩ : ByteArray) = s := ba_ext (by simp)
theorem app_as (a b c : ByteArray) : a ++ b ++ c = a ++ (b ++ c) := ba_ext (by simp)
theorem bodyT_app (l m : List ChkR) : bodyT (l ++ m) = bodyT l ++ bodyT m := by
  induction l with
  | nil => rw [List.nil_append, bodyT, nil_app]
  | cons c r ih => rw [List.cons_append, bodyT, bodyT, ih, app_as]
theorem bodyT_take {l : List ChkR} {k : Nat} (hk : k < l.length) : bodyT (l.take (k + 1)) = bodyT (l.take k) ++ chkT l[k] := by
  rw [List.take_succ_eq_append_getElem hk, bodyT_app, bodyT, bodyT, app_nil]
theorem odd_size (n : Nat) : (oddT n).size = n % 2 := by
  unfold oddT
  split
  · rename_i h; rw [h]; rfl
  · have : n % 2 = 0 := by omega
    rw [this]; rfl
theorem chkT_size (c : ChkR) : (chkT c).size = c.typ.size + 4 + pad c.dat.size := by
  unfold chkT pad
  rw [ByteArray.size_append, ByteArray.size_append, ByteArray.size_append, odd_size, bytesS_size]
  omega
def AllT (l : List ChkR) : Prop := ∀ c ∈ l, typB c.typ = true
theorem bodyT_size {l : List ChkR} (h : AllT l) : (bodyT l).size = sumP l := by
  induction l with
  | nil => rfl
  | cons c r ih =>
    rw [bodyT, sumP, ByteArray.size_append, chkT_size, typ_size (h c (by simp)), ih fun x hx => h x (by simp [hx])]
def joinT (form : ByteArray) (l : List ChkR) : ByteArray := riffT ++ bytesS (4 + sumP l) 4 false ++ form ++ bodyT l
theorem joinT_size {form : ByteArray} {l : List ChkR} (hf : typB form = true) (h : AllT l) : (joinT form l).size = 12 + sumP l := by
  unfold joinT
  rw [ByteArray.size_append, ByteArray.size_append, ByteArray.size_append, bytesS_size, typ_size hf, bodyT_size h]
  have : riffT.size = 4 := rfl
  omega
def joinB (form : ByteArray) (l : List ChkR) : Bool := typB form && l.all fun c => typB c.typ
theorem joinB_all {form : ByteArray} {l : List ChkR} (h : joinB form l = true) : typB form = true ∧ AllT l := by
  unfold joinB at h
  rw [Bool.and_eq_true, List.all_eq_true] at h
  exact h
def joinP (form : ByteArray) (l : List ChkR) : ByteArray × Int := if joinB form l then (joinT form l, 0) else (⟨#[]⟩, 1)
theorem chunk_back {A : ByteArray} {c : ChkR} {R s : ByteArray} (hs : s = A ++ (chkT c ++ R)) (ht : typB c.typ = true) (hn : c.dat.size < 4294967296) : chkE s A.size = 0 ∧ chkC s A.size = c ∧ chkN s A.size = A.size + (chkT c).size := by
  have h4 := typ_size ht
  have e1 : s = A ++ c.typ ++ (bytesS c.dat.size 4 false ++ c.dat ++ oddT c.dat.size ++ R) := by rw [hs, chkT]; simp only [app_as]
  have e2 : s = (A ++ c.typ) ++ bytesS c.dat.size 4 false ++ (c.dat ++ oddT c.dat.size ++ R) := by rw [hs, chkT]; simp only [app_as]
  have e3 : s = (A ++ c.typ ++ bytesS c.dat.size 4 false) ++ c.dat ++ (oddT c.dat.size ++ R) := by rw [hs, chkT]; simp only [app_as]
  have e4 : s = (A ++ c.typ ++ bytesS c.dat.size 4 false ++ c.dat) ++ (oddT c.dat.size ++ R) := by rw [hs, chkT]; simp only [app_as]
  have z2 : (A ++ c.typ).size = A.size + 4 := by rw [ByteArray.size_append, h4]
  have z3 : (A ++ c.typ ++ bytesS c.dat.size 4 false).size = A.size + 8 := by rw [ByteArray.size_append, z2, bytesS_size]
  have z4 : (A ++ c.typ ++ bytesS c.dat.size 4 false ++ c.dat).size = A.size + 8 + c.dat.size := by rw [ByteArray.size_append, z3]
  have t1 : s.extract A.size (A.size + 4) = c.typ := by rw [e1]; exact ext_mid _ _ _ _ _ rfl (by rw [h4])
  have t2 : num4 s (A.size + 4) = c.dat.size := by
    unfold num4
    rw [e2, ← z2]
    exact num_back _ _ _ _ _ (Nat.div_eq_of_lt (by simpa using hn))
  have t3 : s.extract (A.size + 8) (A.size + 8 + c.dat.size) = c.dat := by rw [e3]; exact ext_mid _ _ _ _ _ z3.symm (by rw [z3])
  have zs : s.size = A.size + (8 + pad c.dat.size) + R.size := by
    rw [hs, ByteArray.size_append, ByteArray.size_append, chkT_size, h4]; omega
  have t4 : c.dat.size % 2 = 1 → bt s (A.size + 8 + c.dat.size) = 0 := fun ho => by
    have ho1 : (oddT c.dat.size).size = 1 := by rw [odd_size, ho]
    rw [e4, ← z4]
    have := bt_append_right (A ++ c.typ ++ bytesS c.dat.size 4 false ++ c.dat) (oddT c.dat.size ++ R) 0 (by rw [ByteArray.size_append]; omega)
    rw [Nat.add_zero] at this
    rw [this, bt_append_left _ _ _ (by omega)]
    unfold oddT
    rw [if_pos ho]
    rfl
  refine ⟨?_, ?_, ?_⟩
  · unfold chkE
    rw [t1, t2, ht, if_neg (by omega), if_neg (by decide), if_neg (by omega), if_neg]
    intro ⟨h1, h2⟩
    exact h2 (t4 h1)
  · unfold chkC
    rw [t1, t2, t3]
  · unfold chkN
    rw [t2, chkT_size, h4]; omega
theorem spl_back : ∀ (l : List ChkR) (A s : ByteArray) (acc : List ChkR) (f : Nat), s = A ++ bodyT l → AllT l → (∀ c ∈ l, c.dat.size < 4294967296) → l.length ≤ f → splGo s f A.size acc = (0, acc ++ l)
  | [], A, s, acc, f, hs, _, _, _ => by
    rw [bodyT, app_nil] at hs
    subst hs
    cases f with
    | zero => rw [splGo, List.append_nil]
    | succ f => rw [splGo, if_pos (by omega), List.append_nil]
  | c :: r, A, s, acc, 0, _, _, _, hf => by simp at hf
  | c :: r, A, s, acc, f + 1, hs, ht, hd, hf => by
    have hc := ht c (by simp)
    obtain ⟨h1, h2, h3⟩ := chunk_back (A := A) (s := s) (R := bodyT r) (by rw [hs, bodyT]) hc (hd c (by simp))
    have hz : A.size < s.size := by
      rw [hs, ByteArray.size_append, bodyT, ByteArray.size_append, chkT_size, typ_size hc]; omega
    rw [splGo, if_neg (by omega), if_neg (by rw [h1]; decide), h2, h3, ← ByteArray.size_append]
    rw [spl_back r (A ++ chkT c) s (acc ++ [c]) f (by rw [hs, bodyT, app_as]) (fun x hx => ht x (by simp [hx])) (fun x hx => hd x (by simp [hx])) (by simpa using hf)]
    simp
theorem head_back {form : ByteArray} {l : List ChkR} (hf : typB form = true) (hl : AllT l) (hm : sumP l < 2147483000) (k : Nat) (hk : k ≤ (joinT form l).size) : headE ((joinT form l).extract 0 k) = if k = (joinT form l).size then 0 else 2 := by
  have hz := joinT_size hf hl
  have h4 := typ_size hf
  have hr : riffT.size = 4 := rfl
  have hkz : ((joinT form l).extract 0 k).size = k := by simp; omega
  unfold headE
  rw [hkz]
  by_cases h12 : k < 12
  · rw [if_pos h12, if_neg (by omega)]
  rw [if_neg h12]
  obtain ⟨s, hs⟩ : ∃ s, joinT form l = s := ⟨_, rfl⟩
  rw [hs] at hz hkz hk ⊢
  have hb : bytesS (4 + sumP l) 4 false = bytesS (4 + sumP l) 4 false := rfl
  have hbz : (bytesS (4 + sumP l) 4 false).size = 4 := bytesS_size _ _ _
  have e0 : s = riffT ++ (bytesS (4 + sumP l) 4 false ++ form ++ bodyT l) := by rw [← hs, joinT]; simp only [app_as]
  have e1 : s = riffT ++ bytesS (4 + sumP l) 4 false ++ (form ++ bodyT l) := by rw [← hs, joinT]; simp only [app_as]
  have e2 : s = (riffT ++ bytesS (4 + sumP l) 4 false) ++ form ++ bodyT l := by rw [← hs, joinT]
  have z2 : (riffT ++ bytesS (4 + sumP l) 4 false).size = 8 := by rw [ByteArray.size_append, hbz, hr]
  have x0 : ∀ a b, b ≤ k → (s.extract 0 k).extract a b = s.extract a b := fun a b hb => by
    apply ba_ext
    rw [ext_list, ext_list, ext_list, List.drop_zero, Nat.sub_zero, List.drop_take, List.take_take]
    congr 1
    omega
  have t1 : (s.extract 0 k).extract 0 4 = riffT := by rw [x0 _ _ (by omega), e0]; exact ext_pre _ _ _ hr.symm
  have t2 : (s.extract 0 k).extract 8 12 = form := by rw [x0 _ _ (by omega), e2]; exact ext_mid _ _ _ _ _ z2.symm (by rw [z2, h4])
  have t3 : num4 (s.extract 0 k) 4 = 4 + sumP l := by
    have : num4 s 4 = 4 + sumP l := by
      unfold num4
      rw [e1]
      exact num_back _ _ _ riffT _ (Nat.div_eq_of_lt (by show 4 + sumP l < 2 ^ 32; omega))
    rw [← this]
    unfold num4 numAt
    refine horn_congr 4 fun i hi => ?_
    simp only [dig, Bool.false_eq_true, if_false]
    have := bt_extract s 0 k (4 + 4 - 1 - i) (by omega) (by omega)
    rw [Nat.zero_add, Nat.zero_add] at this
    exact this
  rw [t1, t2, t3, if_neg (by rw [hf]; simp)]
  by_cases hkk : k = s.size
  · rw [if_pos hkk, if_neg (by omega), if_neg (by omega)]
  · rw [if_neg hkk, if_pos (by rw [hz] at hk hkk; omega)]
theorem split_join {form : ByteArray} {l : List ChkR} (hf : typB form = true) (hl : AllT l) (hm : sumP l < 2147483000) : splitP (joinT form l) = (form, l, 0) := by
  have hh := head_back hf hl hm (joinT form l).size (Nat.le_refl _)
  rw [ByteArray.extract_zero_size, if_pos rfl] at hh
  have hbz : (bytesS (4 + sumP l) 4 false).size = 4 := bytesS_size _ _ _
  have h4 := typ_size hf
  have hr : riffT.size = 4 := rfl
  have hz := joinT_size hf hl
  have z2 : (riffT ++ bytesS (4 + sumP l) 4 false).size = 8 := by rw [ByteArray.size_append, hbz, hr]
  have z3 : (riffT ++ bytesS (4 + sumP l) 4 false ++ form).size = 12 := by rw [ByteArray.size_append, z2, h4]
  have hlen : ∀ m : List ChkR, m.length ≤ sumP m := fun m => by
    induction m with
    | nil => exact Nat.le_refl _
    | cons c r ih => rw [sumP, List.length_cons]; omega
  have hdat : ∀ m : List ChkR, ∀ c ∈ m, c.dat.size ≤ sumP m := fun m => by
    induction m with
    | nil => intro c hc; cases hc
    | cons x r ih =>
      intro c hc
      rw [sumP]
      rcases List.mem_cons.1 hc with rfl | hc
      · unfold pad; omega
      · have := ih c hc; omega
  have hb := spl_back l (riffT ++ bytesS (4 + sumP l) 4 false ++ form) (joinT form l) [] (joinT form l).size rfl hl (fun c hc => by have := hdat l c hc; omega) (by have := hlen l; omega)
  rw [z3, List.nil_append] at hb
  have hx : (joinT form l).extract 8 12 = form := by
    unfold joinT
    exact ext_mid _ _ _ _ _ z2.symm (by rw [z2, h4])
  unfold splitP
  rw [hh, hb, hx, if_neg (by decide), if_neg (fun h => h rfl)]
theorem split_cut {form : ByteArray} {l : List ChkR} (hf : typB form = true) (hl : AllT l) (hm : sumP l < 2147483000) (k : Nat) (hk : k < (joinT form l).size) : splitP ((joinT form l).extract 0 k) = (⟨#[]⟩, [], 2) := by
  have hh := head_back hf hl hm k (by omega)
  rw [if_neg (by omega)] at hh
  unfold splitP
  rw [hh, if_pos (by decide)]
end Go.Proofs.Ytciaebhkemdilab

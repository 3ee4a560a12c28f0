import Derived.Test.YtacgnadhpgkcmaaDoorDef0
import Derived.Test.YtacgnadhpgkcmaaDoorHufP
import Derived.Test.YtacgnadhpgkcmaaDoorMatN
import Derived.Test.YtacgnadhpgkcmaaDoorHufG
import Derived.Test.YtacgnadhpgkcmaaDoorHufL
import Derived.Maps.AppendAt
import Derived.Deep.AppendLies
import Derived.Deep.RegionLaw
import Derived.Test.YtacgnadhpgkcmaaDoorTokKit
import Derived.StillTailTactics
import Derived.Deep.RegionHeld3
import Derived.Lib.AppendZerosOnto
import Derived.Lib.LazyBuf
import Derived.Test.YtacgnadhpgkcmaaDoorMatC
/- Deflate, plain: the symbols of tokens, and the bits that they are written as. No program in it. -/
namespace Go.Proofs.YtacgnadhpgkcmaaDoor
open Go.RowKit
set_option linter.unusedVariables false
/-- A symbol: its index, how many bits more, and what they are. -/
structure SymT where
  idx : Nat
  ext : Nat
  more : Nat
def symV (s : SymT) : Value := .agg #[.int .i64 s.idx, .int .i64 s.ext, .int .u32 s.more]
def litY (t : TokR) : SymT := if isB t then ⟨t.lit, 0, 0⟩ else ⟨mlenS t.len.toNat, lenX (mlenS t.len.toNat), t.len.toNat - mlenF (mlenS t.len.toNat)⟩
def dstY (t : TokR) : SymT := ⟨dstS t.dist.toNat, dstX (dstS t.dist.toNat), t.dist.toNat - dstF (dstS t.dist.toNat)⟩
/-- What a length below 258 has. -/
def exGo (n : Nat) : Nat → Nat → Nat
  | 0, e => e
  | f + 1, e => if n / 2 ^ e < 8 then e else exGo n f (e + 1)
theorem exGo_is {n e : Nat} (h : ExG 4 n e) : ∀ f i, i ≤ e → e ≤ i + f → exGo n f i = e
  | 0, i, h1, h2 => by show i = e; omega
  | f + 1, i, h1, h2 => by
    rw [exGo]
    by_cases c : n / 2 ^ i < 8
    · rw [if_pos c]
      rcases Nat.lt_or_ge i e with h3 | h3
      · have := h.ge i h3
        omega
      · omega
    · rw [if_neg c]
      have : i ≠ e := fun q => c (by have := h.lt; rw [q]; omega)
      exact exGo_is h f (i + 1) (by omega) (by omega)
set_option maxRecDepth 100000 in
theorem len_all : ∀ k : Fin 255, exGo k.val 8 0 * 4 + k.val / 2 ^ exGo k.val 8 0 + 257 = mlenS (k.val + 3) ∧ exGo k.val 8 0 = lenX (mlenS (k.val + 3)) ∧ k.val % 2 ^ exGo k.val 8 0 = k.val + 3 - mlenF (mlenS (k.val + 3)) ∧ exGo k.val 8 0 ≤ 5 ∧ mlenS (k.val + 3) < 286 := by decide
theorem exG_small {n e : Nat} (h : ExG 4 n e) (hn : n < 255) : e ≤ 8 := by
  rcases Nat.lt_or_ge 8 e with h1 | h1
  · have := h.ge 8 h1
    have : n / 2 ^ 8 = 0 := Nat.div_eq_of_lt (by omega)
    omega
  · exact h1
theorem len_sym {n e : Nat} (h : ExG 4 n e) (hn : n < 255) : e * 4 + n / 2 ^ e + 257 = mlenS (n + 3) ∧ e = lenX (mlenS (n + 3)) ∧ n % 2 ^ e = n + 3 - mlenF (mlenS (n + 3)) ∧ e ≤ 5 ∧ mlenS (n + 3) < 286 := by
  have := len_all ⟨n, hn⟩
  rwa [exGo_is h 8 0 (Nat.zero_le _) (by have := exG_small h hn; omega)] at this
theorem div_two (n e : Nat) : n / 2 ^ (e + 1) = n / 2 ^ e / 2 := by rw [Nat.pow_succ, Nat.div_div_eq_div_mul]
theorem dst_sym {n e : Nat} (h : ExG 2 n e) (hn : n < 32768) : e * 2 + n / 2 ^ e = dstS (n + 1) ∧ e = dstX (dstS (n + 1)) ∧ n % 2 ^ e = n + 1 - dstF (dstS (n + 1)) ∧ e ≤ 13 ∧ dstS (n + 1) < 30 := by
  rcases Nat.eq_zero_or_pos e with rfl | he
  · have h4 := h.lt
    rw [Nat.pow_zero, Nat.div_one] at h4
    have : ∀ k : Fin 4, 0 * 2 + k.val / 2 ^ 0 = dstS (k.val + 1) ∧ 0 = dstX (dstS (k.val + 1)) ∧ k.val % 2 ^ 0 = k.val + 1 - dstF (dstS (k.val + 1)) ∧ 0 ≤ 13 ∧ dstS (k.val + 1) < 30 := by decide
    exact this ⟨n, h4⟩
  · obtain ⟨d, rfl⟩ : ∃ d, e = d + 1 := ⟨e - 1, by omega⟩
    have hg := h.ge d (by omega)
    have hl := h.lt
    have hs := div_two n d
    obtain ⟨q, hq⟩ : ∃ q, n / 2 ^ (d + 1) = q := ⟨_, rfl⟩
    rw [hq] at hl hs
    have hm := Nat.div_add_mod n (2 ^ (d + 1))
    have hml := Nat.mod_lt n (Nat.two_pow_pos (d + 1))
    rw [hq] at hm
    have hq2 : 2 ≤ q := by omega
    have hP : 2 ^ (d + 1) * 2 ≤ 2 ^ (d + 1) * q := Nat.mul_le_mul_left _ hq2
    have hd : d ≤ 12 := by
      rcases Nat.lt_or_ge 12 d with h1 | h1
      · have : (2 : Nat) ^ 14 ≤ 2 ^ (d + 1) := Nat.pow_le_pow_right (by decide) (by omega)
        rw [show (2 : Nat) ^ 14 = 16384 by rfl] at this
        omega
      · exact h1
    have hqe : q = 2 ∨ q = 3 := by omega
    have hx : ∀ s, 4 ≤ s → dstX s = s / 2 - 1 := fun s h => by unfold dstX; rw [if_neg (by omega)]
    have hf : ∀ s, 4 ≤ s → dstF s = 1 + (2 + s % 2) * 2 ^ (s / 2 - 1) := fun s h => by unfold dstF; rw [if_neg (by omega)]
    have fs : dstF ((d + 1) * 2 + q) = 1 + 2 ^ (d + 1) * q := by
      rw [hf _ (by omega), show (d + 1) * 2 + q = 2 * (d + 1) + q by omega]
      rcases hqe with rfl | rfl
      · rw [show (2 * (d + 1) + 2) % 2 = 0 by omega, show (2 * (d + 1) + 2) / 2 - 1 = d + 1 by omega, Nat.mul_comm]
      · rw [show (2 * (d + 1) + 3) % 2 = 1 by omega, show (2 * (d + 1) + 3) / 2 - 1 = d + 1 by omega, Nat.mul_comm]
    have fn : n + 1 < dstF ((d + 1) * 2 + q + 1) := by
      rw [hf _ (by omega)]
      rcases hqe with rfl | rfl
      · rw [show ((d + 1) * 2 + 2 + 1) % 2 = 1 by omega, show ((d + 1) * 2 + 2 + 1) / 2 - 1 = d + 1 by omega]
        omega
      · rw [show ((d + 1) * 2 + 3 + 1) % 2 = 0 by omega, show ((d + 1) * 2 + 3 + 1) / 2 - 1 = d + 1 + 1 by omega, Nat.pow_succ 2 (d + 1)]
        omega
    have hS : dstS (n + 1) = (d + 1) * 2 + q := by
      have := symGo_is dstF 0 (n + 1) 30 ((d + 1) * 2 + q) (by omega) (by rw [Nat.zero_add, fs]; omega) fun j h1 h2 => by
        rw [Nat.zero_add]
        exact Nat.lt_of_lt_of_le fn (dstF_le ⟨(d + 1) * 2 + q + 1, by omega⟩ ⟨j, h2⟩ h1)
      rw [Nat.zero_add] at this
      exact this
    rw [hq, hS, hx _ (by omega), fs]
    refine ⟨rfl, by omega, by omega, by omega, by omega⟩
set_option maxRecDepth 100000 in
theorem litY_ok {t : TokR} (h : tokOk t = true) (hl : t.lit < 256) : (litY t).idx < 286 ∧ (litY t).ext ≤ 5 ∧ (litY t).more < 2 ^ (litY t).ext := by
  unfold litY
  cases hb : isB t with
  | true => exact ⟨by show t.lit < 286; omega, by show 0 ≤ 5; omega, by show 0 < 2 ^ 0; decide⟩
  | false =>
    have hm : isM t = true := by simpa [tokOk, hb] using h
    obtain ⟨_, _, h3, h4, _⟩ := isM_iff.1 hm
    simp only [Bool.false_eq_true, if_false]
    obtain ⟨n, hn⟩ : ∃ n, t.len.toNat = n + 3 := ⟨t.len.toNat - 3, by omega⟩
    rw [hn]
    have : ∀ k : Fin 256, mlenS (k.val + 3) < 286 ∧ lenX (mlenS (k.val + 3)) ≤ 5 ∧ k.val + 3 - mlenF (mlenS (k.val + 3)) < 2 ^ lenX (mlenS (k.val + 3)) := by decide
    exact this ⟨n, by omega⟩
theorem exG_ex (n : Nat) (hn : n < 32768) : ∃ e, ExG 2 n e := by
  have key : ∀ f i, n / 2 ^ (i + f) < 4 → (∀ j, j < i → 4 ≤ n / 2 ^ j) → ∃ e, ExG 2 n e := by
    intro f
    induction f with
    | zero => exact fun i h1 h2 => ⟨i, h1, h2⟩
    | succ f ih =>
      intro i h1 h2
      by_cases c : n / 2 ^ i < 4
      · exact ⟨i, c, h2⟩
      · refine ih (i + 1) (by rw [show i + 1 + f = i + (f + 1) by omega]; exact h1) fun j hj => ?_
        rcases Nat.lt_or_ge j i with q | q
        · exact h2 j q
        · obtain rfl : j = i := by omega
          omega
  exact key 15 0 (by rw [Nat.zero_add, Nat.div_eq_of_lt (show n < 2 ^ 15 from hn)]; decide) fun j hj => by omega
theorem dstY_ok {t : TokR} (h : isM t = true) : (dstY t).idx < 30 ∧ (dstY t).ext ≤ 13 ∧ (dstY t).more < 2 ^ (dstY t).ext := by
  obtain ⟨h1, h2, _⟩ := isM_iff.1 h
  obtain ⟨n, hn⟩ : ∃ n, t.dist.toNat = n + 1 := ⟨t.dist.toNat - 1, by omega⟩
  obtain ⟨e, he⟩ := exG_ex n (by omega)
  obtain ⟨k1, k2, k3, k4, k5⟩ := dst_sym he (by omega)
  unfold dstY
  rw [hn]
  exact ⟨k5, by show dstX _ ≤ 13; omega, by show n + 1 - dstF _ < 2 ^ dstX _; rw [← k2, ← k3]; exact Nat.mod_lt _ (Nat.two_pow_pos _)⟩
/-- Numbers that are written, with how many bits each: how many bits in all. -/
def pcK : List (Nat × Nat) → Nat
  | [] => 0
  | p :: r => p.2 + pcK r
/-- What they are. -/
def pcN : List (Nat × Nat) → Nat
  | [] => 0
  | p :: r => p.1 + 2 ^ p.2 * pcN r
theorem pcK_app : ∀ a b : List (Nat × Nat), pcK (a ++ b) = pcK a + pcK b
  | [], b => by simp [pcK]
  | p :: r, b => by rw [List.cons_append, pcK, pcK_app r b, pcK]; omega
theorem pcN_app : ∀ a b : List (Nat × Nat), pcN (a ++ b) = pcN a + 2 ^ pcK a * pcN b
  | [], b => by simp [pcK, pcN]
  | p :: r, b => by rw [List.cons_append, pcN, pcN_app r b, pcN, pcK, Nat.mul_add, Nat.pow_add, Nat.mul_assoc, Nat.add_assoc]
/-- Written behind what is there. -/
theorem pcN_at (N k : Nat) (a b : List (Nat × Nat)) : N + pcN a * 2 ^ k + pcN b * 2 ^ (k + pcK a) = N + pcN (a ++ b) * 2 ^ k := by
  rw [pcN_app, Nat.add_mul, Nat.pow_add, Nat.add_assoc, Nat.mul_comm (2 ^ pcK a) (pcN b), Nat.mul_assoc, Nat.mul_comm (2 ^ k) (2 ^ pcK a)]
/-- A symbol by its code, and the bits more. -/
def symP (l : List Int) (s : SymT) : List (Nat × Nat) := [(revB (codeF l s.idx) (lenF l s.idx), lenF l s.idx), (s.more, s.ext)]
def tokP (L D : List Int) (t : TokR) : List (Nat × Nat) := symP L (litY t) ++ if isB t then [] else symP D (dstY t)
def toksP (L D : List Int) (ts : List TokR) : List (Nat × Nat) := ts.flatMap (tokP L D) ++ symP L ⟨256, 0, 0⟩
theorem symP_le {l : List Int} (h : IsCode l) {s : SymT} (hs : s.ext ≤ 13) : pcK (symP l s) ≤ 28 := by
  have := (h.len s.idx).1
  show lenF l s.idx + (s.ext + 0) ≤ 28
  omega
theorem tokP_le {L D : List Int} (hL : IsCode L) (hD : IsCode D) {t : TokR} (h : tokOk t = true) (hl : t.lit < 256) : pcK (tokP L D t) ≤ 56 := by
  unfold tokP
  rw [pcK_app]
  have h1 := symP_le hL (s := litY t) (by have := (litY_ok h hl).2.1; omega)
  cases hb : isB t with
  | true => rw [if_pos rfl]; show pcK _ + 0 ≤ 56; omega
  | false =>
    have hm : isM t = true := by simpa [tokOk, hb] using h
    have h2 := symP_le hD (s := dstY t) (by have := (dstY_ok hm).2.1; omega)
    simp only [Bool.false_eq_true, if_false]
    omega
theorem toks_le {L D : List Int} (hL : IsCode L) (hD : IsCode D) : ∀ ts : List TokR, costOk ts = true → (∀ t ∈ ts, t.lit < 256) → pcK (ts.flatMap (tokP L D)) ≤ 56 * ts.length
  | [], _, _ => by simp [pcK]
  | t :: r, h, hl => by
    have h1 : tokOk t = true ∧ costOk r = true := by simpa [costOk] using h
    have h2 := tokP_le hL hD h1.1 (hl t (by simp))
    have h3 := toks_le hL hD r h1.2 fun x hx => hl x (by simp [hx])
    rw [List.flatMap_cons, pcK_app, List.length_cons]
    omega
end Go.Proofs.YtacgnadhpgkcmaaDoor
/- What deflate's literal and distance return of any token that may be; newCode (contracts of the functions). -/
namespace Go.Proofs.YtacgnadhpgkcmaaDoor
open Go.RowKit Go.Conc
set_option linter.unusedVariables false
theorem literal_ok (t : TokR) (ht : tokOk t = true) (hl : t.lit < 256) (w : World) :
    Calls Tryd.prog 19 #[.agg #[.int .u8 t.lit, .int .i64 t.len, .int .i64 t.dist]] w fun e w' => e = .returned (symV (litY t)) ∧ Bw w w' := by
  obtain ⟨lit, ln, d⟩ := t
  cases hb : isB ⟨lit, ln, d⟩ with
  | true =>
    obtain ⟨h1, h2⟩ := isB_iff.1 hb
    simp only at h1 h2
    subst h1 h2
    have : litY ⟨lit, 0, 0⟩ = ⟨lit, 0, 0⟩ := by unfold litY; rw [hb, if_pos rfl]
    rw [this]
    exact literal_lit lit hl 0 w
  | false =>
    have hm : isM ⟨lit, ln, d⟩ = true := by simpa [tokOk, hb] using ht
    obtain ⟨h1, h2, h3, h4, h5⟩ := isM_iff.1 hm
    simp only at h1 h2 h3 h4 h5
    obtain ⟨dn, rfl⟩ := Int.eq_ofNat_of_zero_le (show 0 ≤ d by omega)
    obtain ⟨n, rfl⟩ := Int.eq_ofNat_of_zero_le (show 0 ≤ ln by omega)
    have e1 : litY ⟨lit, (n : Nat), (dn : Nat)⟩ = ⟨mlenS n, lenX (mlenS n), n - mlenF (mlenS n)⟩ := by unfold litY; rw [hb]; simp
    rw [e1]
    by_cases h8 : n = 258
    · subst h8
      exact literal_258 lit dn (by omega) w
    · refine (literal_len lit n dn (by omega) (by omega) (by omega) w).mono ?_
      rintro e' w' ⟨e, hE, _, rfl, hbw⟩
      obtain ⟨k1, k2, k3, _⟩ := len_sym hE (by omega)
      rw [show n - 3 + 3 = n by omega] at k1 k2 k3
      exact ⟨by rw [k1, k3, ← k2]; rfl, hbw⟩
theorem distance_ok (t : TokR) (ht : isM t = true) (w : World) :
    Calls Tryd.prog 20 #[.agg #[.int .u8 t.lit, .int .i64 t.len, .int .i64 t.dist]] w fun e w' => e = .returned (symV (dstY t)) ∧ Bw w w' := by
  obtain ⟨lit, ln, d⟩ := t
  obtain ⟨h1, h2, _⟩ := isM_iff.1 ht
  simp only at h1 h2
  obtain ⟨dn, rfl⟩ := Int.eq_ofNat_of_zero_le (show 0 ≤ d by omega)
  refine (distance_any lit ln dn (by omega) (by omega) w).mono ?_
  rintro e' w' ⟨e, hE, _, rfl, hbw⟩
  obtain ⟨k1, k2, k3, _⟩ := dst_sym hE (by omega)
  rw [show dn - 1 + 1 = dn by omega] at k1 k2 k3
  refine ⟨?_, hbw⟩
  show _ = Ending.returned (.agg #[.int .i64 (dstS dn : Nat), .int .i64 (dstX (dstS dn) : Nat), .int .u32 ((dn - dstF (dstS dn) : Nat))])
  rw [k1, k3, ← k2]
/-- A code in memory: its lengths, and its bits. -/
structure CodeAt (w : World) (lb ub : Nat) (l : List Int) : Prop where
  l1 : lb < w.heap.size
  u1 : ub < w.heap.size
  lc : ∀ i, i < l.length → w.cell? ⟨lb, i, none⟩ = some (.int .i64 (lenF l i : Nat))
  uc : ∀ i, i < l.length → w.cell? ⟨ub, i, none⟩ = some (.int .u32 (revB (codeF l i) (lenF l i) : Nat))
def codeV (lb lc ub uc n : Nat) : Value := .agg #[.slice (some ⟨lb, 0, none⟩) n lc, .slice (some ⟨ub, 0, none⟩) n uc]
theorem CodeAt.blocks {w w' : World} {lb ub : Nat} {l : List Int} (h : CodeAt w lb ub l) (hs : w.heap.size ≤ w'.heap.size) (h1 : w'.heap[lb]? = w.heap[lb]?) (h2 : w'.heap[ub]? = w.heap[ub]?) : CodeAt w' lb ub l :=
  ⟨Nat.lt_of_lt_of_le h.l1 hs, Nat.lt_of_lt_of_le h.u1 hs, fun i hi => (World.cell?_of_block h1).trans (h.lc i hi), fun i hi => (World.cell?_of_block h2).trans (h.uc i hi)⟩
theorem CodeAt.bw {w w' : World} {lb ub : Nat} {l : List Int} (h : CodeAt w lb ub l) (hb : Bw w w') : CodeAt w' lb ub l := h.blocks hb.size (hb.block lb h.l1) (hb.block ub h.u1)
def usCells (l : List Int) (k : Nat) : List Value := (List.range k).map fun i => Value.int .u32 (revB (codeF l i) (lenF l i) : Nat)
theorem usCells_succ (l : List Int) (k : Nat) : usCells l (k + 1) = usCells l k ++ [Value.int .u32 (revB (codeF l k) (lenF l k) : Nat)] := by
  unfold usCells
  rw [List.range_succ, List.map_append]
  rfl
theorem usCells_get (l : List Int) (k i : Nat) (h : i < k) : (usCells l k)[i]? = some (Value.int .u32 (revB (codeF l i) (lenF l i) : Nat)) := by
  unfold usCells
  simp [h]
theorem u32Info : (Tryd.prog.info? 48).map (fun i => (i.zero, i.size, i.bytes)) = some (some (.int .u32 0), 1, 4) := by kernel_rfl
theorem code_small {l : List Int} (h : IsCode l) (i : Nat) : codeF l i < 32768 := by
  rcases Nat.eq_zero_or_pos (lenF l i) with h0 | h0
  · rw [code_zero h h0]; decide
  · have h1 := code_lt h h0
    have h2 : (2 : Nat) ^ lenF l i ≤ 2 ^ 15 := Nat.pow_le_pow_right (by decide) (h.len i).1
    rw [show (2 : Nat) ^ 15 = 32768 by rfl] at h2
    omega
set_option maxRecDepth 100000 in
set_option maxHeartbeats 4000000 in
theorem newCode_any (b c len : Nat) (l : List Int) (hll : Hid (l.length = len)) (h0 : 0 < len) (hE : checkE l = 0) (w : World) (hst : ZsAt w (some ⟨b, 0, none⟩) l) :
    Calls Tryd.prog 21 #[.slice (some ⟨b, 0, none⟩) len c] w fun e w' => ∃ ub uc, e = .returned (codeV b c ub uc len) ∧ w.heap.size ≤ ub ∧ CodeAt w' b ub l ∧ Bw w w' := by
  obtain ⟨i0, hinf, hz0, hz1, hz2⟩ := info_parts u32Info
  have hIC := IsCode.of_check hE
  have h320 : len ≤ 320 := by rw [← hll.out]; exact hIC.few
  have HIC := hid hIC
  have HCO := hid (fun (W : World) (h : Bw w W) => codes_ok (some ⟨b, 0, none⟩) len c l hll hE W (hst.bw h))
  have HLE := hid (show ∀ i, i < len → b < w.heap.size ∧ w.cell? ⟨b, i, none⟩ = some (.int .i64 (lenF l i : Nat)) from fun i hi => by
    obtain ⟨b', off, e, hb', hc⟩ := hst i (by rw [hll.out]; exact hi)
    injection e with e
    injection e with e1 e2 e3
    subst e1 e2
    have : l[i]'(by rw [hll.out]; exact hi) = (lenF l i : Nat) := by
      have := (hIC.len i).2
      simpa [List.getD, show i < l.length by rw [hll.out]; exact hi] using this
    rw [this, Nat.zero_add] at hc
    exact ⟨hb', hc⟩)
  have hbw0 := (HLE.out 0 h0).1
  clear hst hIC hE
  go_enter Tryd.func21, Tryd.ntmps21
  go_wp2_with fail
  refine (HCO.out _ ((Bw.refl w).alloc _)).mono ?_
  rintro e w2 ⟨rb, rfl, hrb, hhas, hb2⟩
  obtain ⟨g, hg⟩ : ∃ g, w2.heap.size = g := ⟨_, rfl⟩
  have hsz2 := hb2.size
  rw [World.size_alloc] at hsz2 hrb
  have HA := hid (hb2.has (Has.new w 35 #[.slice none 0 0, .slice none 0 0]))
  have HB2 := hid (show Bw w w2 from ((Bw.refl w).alloc _).trans hb2)
  have HH2 := hid hhas
  have hrl := hhas.lt
  clear hhas hb2
  go_wp2_with fail
  have HG3 := hid (Has.new w2 35 #[.slice (some ⟨b, 0, none⟩) len c, .slice none 0 0])
  have HB3 := hid (HB2.out.alloc (.cells #[.slice (some ⟨b, 0, none⟩) len c, .slice none 0 0] 35))
  have HR3 := hid (HH2.out.alloc (.cells #[.slice (some ⟨b, 0, none⟩) len c, .slice none 0 0] 35))
  have HA3 := hid (HA.out.alloc (.cells #[.slice (some ⟨b, 0, none⟩) len c, .slice none 0 0] 35))
  have HZ3 := hid (show g + 1 ≤ (w2.alloc (.cells #[.slice (some ⟨b, 0, none⟩) len c, .slice none 0 0] 35)).heap.size by rw [World.size_alloc, hg]; exact Nat.le_refl _)
  rw [hg] at HG3
  generalize w2.alloc (.cells #[.slice (some ⟨b, 0, none⟩) len c, .slice none 0 0] 35) = W3 at *
  have hwg : w.heap.size < g := by omega
  have hrg : rb < g := by omega
  clear HB2 HH2 HA hg hsz2 hrl
  go_loopw [17] (fun i wr => ∃ (k : Nat) (v : Value), k ≤ len ∧ i = .int .i64 k ∧ Has wr g 35 #[.slice (some ⟨b, 0, none⟩) len c, v] ∧ wr.ownsRow (g + 1) 48 1 v k (usCells l k) ∧ Has wr rb 3 (cArr l len len) ∧ Has wr w.heap.size 35 #[.slice none 0 0, .slice none 0 0] ∧ g + 1 ≤ wr.heap.size ∧ Bw w wr) (fun i _ => len - (intOf i).toNat)
  case atStart => exact ⟨0, _, Nat.zero_le _, rfl, HG3.out, World.ownsRow_nil _ _ _ _, HR3.out, HA3.out, HZ3.out, HB3.out⟩
  case round =>
    clear HG3 HR3 HA3 HZ3 HB3
    obtain ⟨k, v, hk, rfl, hg1, hown, hr, ha, hz, hbw⟩ := hrel
    obtain ⟨vo, vc, rfl⟩ := own_slice hown
    have HG := hid hg1
    have HO := hid hown
    have HR := hid hr
    have HA := hid ha
    have HB := hid hbw
    have hbs := hbw.size
    by_cases hlt : k < len
    · have hlti : (k : Int) < len := by omega
      have q1 : wr.cell? ⟨b, k, none⟩ = some (.int .i64 (lenF l k : Nat)) := (World.cell?_of_block (hbw.block b hbw0)).trans (HLE.out k hlt).2
      have q2 : wr.cell? ⟨rb, k, none⟩ = some (.int .i64 (codeF l k : Nat)) := by
        rw [hr.cell k, cArr_get l len len k hlt, if_pos hlt]
      have q3 := hg1.cell 0
      have q4 := hg1.cell 1
      have HRV := hid (fun W => reversed_any (codeF l k) (lenF l k) (code_small HIC.out k) (HIC.out.len k).1 W)
      have HU := hid (usCells_succ l k)
      generalize codeF l k = cd at *
      generalize lenF l k = ln at *
      clear hg1 hown hr ha hbw
      have HWA := hid (show Bw wr (wr.alloc (.cells #[.int .u32 (revB cd ln : Nat)] 48)).drew from ((Bw.refl wr).alloc _).drewN 1)
      have HGA := hid (HWA.out.has HG.out)
      have HRA := hid (HWA.out.has HR.out)
      have HAA := hid (HWA.out.has HA.out)
      have HOA := hid (HWA.out.own HO.out)
      have HBA := hid (HB.out.trans HWA.out)
      have n1 := own_ne_has HO.out HG.out (by decide)
      have n2 := own_ne_has HO.out HR.out (by decide)
      have n3 := own_ne_has HO.out HA.out (by decide)
      generalize hrv : revB cd ln = rv at *
      have HK4 := hid (show k ≤ 320 by omega)
      have q2d : wr.drew.cell? ⟨rb, k, none⟩ = some (.int .i64 cd) := q2
      have q4d : wr.drew.cell? ⟨g, 1, none⟩ = some (.slice vo k vc) := q4
      have q4e := HWA.out.cell q4
      go_wp2_with fail
      go_region_law
        (first
          | (refine step_append_lies _ (by rfl) (.tmp 23) (.tmp 30) 33 (by rfl) (g + 1) 48 i0 (.int .u32 0) 1 4 Tryd.underlying33 hinf hz0 hz1 hz2 (by rfl) (by decide) (.slice vo k vc) k (usCells l k) (by rfl) HOA.out ⟨wr.heap.size, 0, none⟩ 1 1 [.int .u32 (rv : Nat)] (by rfl) rfl (cell_one_new _ _ _) (by intro u hu; simp at hu; rw [hu]; rfl) (by omega) (by unfold maxLen; omega) (by omega) (by simp only [World.size_alloc, World.drew]; omega) (wr.heap.size + 1) (by simp) ?_; intro g5 cp5 w5 hown5 hgrow5 hat5 hlt5; have HO5 := hid hown5; have HG5 := hid hgrow5; have hg5 := has_grown HGA.out hgrow5 n1; have z5 := hg5.frozen 1; have y5 := hg5.cell 1; have HH5 := hid hg5; clear hown5 hgrow5 hat5 hlt5 hg5)
          | (go_simp; go_at_call 41; refine (HRV.out _).mono ?_; rintro e w2 ⟨rfl, rfl⟩))
      all_goals
        go_wp2
        go_roundw
        case rel =>
          have hgl := HG5.out.size
          have hO := own_keep HO5.out fun b hb => Below.heap_setCell w5 ⟨g, 1, none⟩ (.slice (some ⟨g5, 0, none⟩) (k + 1) cp5) b (fun e => by have h1 := own_ge HO5.out hb; have h2 : g = b := e.symm; omega)
          have hR := (has_grown HRA.out HG5.out n2).far (p := ⟨g, 1, none⟩) (show rb ≠ g by omega) (.slice (some ⟨g5, 0, none⟩) (k + 1) cp5)
          have hA := (has_grown HAA.out HG5.out n3).far (p := ⟨g, 1, none⟩) (show w.heap.size ≠ g by omega) (.slice (some ⟨g5, 0, none⟩) (k + 1) cp5)
          have hB := Below.setCell (Below.trans HBA.out (own_grownJ (own_base HOA.out (show w.heap.size ≤ g + 1 by omega)) HG5.out (by have := HBA.out.size; omega))) (p := ⟨g, 1, none⟩) (show w.heap.size ≤ g by omega) (.slice (some ⟨g5, 0, none⟩) (k + 1) cp5)
          refine ⟨k + 1, .slice (some ⟨g5, 0, none⟩) (k + 1) cp5, by omega, by go_num, HH5.out.put 1 _, by rw [HU.out]; exact hO, hR, hA, ?_, hB⟩
          rw [World.size_setCell]
          simp only [World.size_alloc, World.drew] at hgl
          exact Nat.le_trans (Nat.le_succ_of_le hz) hgl
        case measure => simp [intOf]; omega
    · obtain rfl : k = len := by omega
      obtain ⟨ub, uc, e⟩ := own_some hown h0
      injection e with e1 e2 e3
      subst e1 e3
      have q3 := hg1.cell 0
      have q4 := hg1.cell 1
      have a0 := ha.cell 0
      have a1 := ha.cell 1
      have z0 := ha.frozen 0
      have z1 := ha.frozen 1
      have HP := hid ((ha.put 0 (.slice (some ⟨b, 0, none⟩) k c)).put 1 (.slice (some ⟨ub, 0, none⟩) k vc))
      have hub := own_ge hown (b := ub) rfl
      have hul := own_lt hown (b := ub) rfl
      have HBE := hid (show Bw w _ from Below.setCell (Below.setCell hbw (p := ⟨w.heap.size, 0, none⟩) (Nat.le_refl _) (.slice (some ⟨b, 0, none⟩) k c)) (p := ⟨w.heap.size, 1, none⟩) (Nat.le_refl _) (.slice (some ⟨ub, 0, none⟩) k vc))
      have HUC := hid (show ∀ i, i < k → wr.cell? ⟨ub, i, none⟩ = some (.int .u32 (revB (codeF l i) (lenF l i) : Nat)) from fun i hi => by
        have := hown.cells (g := ub) rfl i _ (usCells_get l k i hi)
        rwa [addr_add] at this)
      have HUK := hid (show ((wr.setCell ⟨w.heap.size, 0, none⟩ (.slice (some ⟨b, 0, none⟩) k c)).setCell ⟨w.heap.size, 1, none⟩ (.slice (some ⟨ub, 0, none⟩) k vc)).heap[ub]? = wr.heap[ub]? from
        (Below.heap_setCell _ ⟨w.heap.size, 1, none⟩ _ ub (fun e => by have h2 : w.heap.size = ub := e.symm; omega)).trans (Below.heap_setCell _ ⟨w.heap.size, 0, none⟩ _ ub (fun e => by have h2 : w.heap.size = ub := e.symm; omega)))
      have HSZ := hid (show ((wr.setCell ⟨w.heap.size, 0, none⟩ (.slice (some ⟨b, 0, none⟩) k c)).setCell ⟨w.heap.size, 1, none⟩ (.slice (some ⟨ub, 0, none⟩) k vc)).heap.size = wr.heap.size by rw [World.size_setCell, World.size_setCell])
      clear hg1 hown hr ha hbw
      go_wp2
      generalize (wr.setCell ⟨w.heap.size, 0, none⟩ (.slice (some ⟨b, 0, none⟩) k c)).setCell ⟨w.heap.size, 1, none⟩ (.slice (some ⟨ub, 0, none⟩) k vc) = w9 at *
      have e0 : w9.cell? ⟨w.heap.size, 0, none⟩ = some (.slice (some ⟨b, 0, none⟩) k c) := HP.out.cell 0
      have e1 : w9.cell? ⟨w.heap.size, 1, none⟩ = some (.slice (some ⟨ub, 0, none⟩) k vc) := HP.out.cell 1
      (try simp only [Exit.inBlock, Exit.then])
      refine bodyPost_ret (by simp [results, Tryd.results21, go_sem, e0, e1]; try rfl) rfl ?_
      refine ⟨ub, ⟨vc, rfl⟩, by omega, ⟨Nat.lt_of_lt_of_le hbw0 HBE.out.size, by rw [HSZ.out]; exact hul, fun i hi => ?_, fun i hi => ?_⟩, HBE.out⟩
      · rw [hll.out] at hi
        exact (World.cell?_of_block (HBE.out.block b hbw0)).trans (HLE.out i hi).2
      · rw [hll.out] at hi
        exact (World.cell?_of_block HUK.out).trans (HUC.out i hi)
end Go.Proofs.YtacgnadhpgkcmaaDoor
/- A symbol, written; all tokens' symbols, written (contracts of the methods). -/
namespace Go.Proofs.YtacgnadhpgkcmaaDoor
open Go.RowKit Go.Conc
set_option linter.unusedVariables false
theorem CodeAt.keep {F : Nat → Prop} {w w' : World} {lb ub : Nat} {l : List Int} (h : CodeAt w lb ub l) (hk : Keeps F w w') (h1 : ¬ F lb) (h2 : ¬ F ub) : CodeAt w' lb ub l := h.blocks hk.size (hk.block lb h.l1 h1) (hk.block ub h.u1 h2)
theorem WPost.more {F F1 : Nat → Prop} {w : World} (hf : ∀ i, F1 i → F i ∨ w.heap.size ≤ i) {b : Nat} (hb : b < w.heap.size) (hn : ¬ F b) : ¬ F1 b := fun h => by
  rcases hf b h with h | h
  · exact hn h
  · omega
set_option maxRecDepth 100000 in
set_option maxHeartbeats 4000000 in
theorem symbol_any (F : Nat → Prop) (g k N lb lc ub uc len : Nat) (l : List Int) (hIC : IsCode l) (hll : Hid (l.length = len)) (idx ext more : Nat) (hi : idx < len) (hx : ext ≤ 13) (hm : more < 2 ^ ext) (hk : k ≤ 1125899906842000) (w : World) (h : WrF F w g k N) (hc : CodeAt w lb ub l) (h1 : ¬ F lb) (h2 : ¬ F ub) :
    Calls Tryd.prog 27 #[.pointer (some ⟨g, 0, none⟩), codeV lb lc ub uc len, .agg #[.int .i64 idx, .int .i64 ext, .int .u32 more]] w fun e w' => e = .returned (.tuple #[]) ∧ WPost F g (k + pcK (symP l ⟨idx, ext, more⟩)) (N + pcN (symP l ⟨idx, ext, more⟩) * 2 ^ k) w w' := by
  have hl15 := (hIC.len idx).1
  have hcs := code_small hIC idx
  have hrv := revB_lt (codeF l idx) (lenF l idx)
  have hv32 : revB (codeF l idx) (lenF l idx) < 4294967296 := by
    have : (2 : Nat) ^ lenF l idx ≤ 2 ^ 15 := Nat.pow_le_pow_right (by decide) hl15
    rw [show (2 : Nat) ^ 15 = 32768 by rfl] at this
    omega
  have hm32 : more < 4294967296 := by
    have : (2 : Nat) ^ ext ≤ 2 ^ 13 := Nat.pow_le_pow_right (by decide) hx
    rw [show (2 : Nat) ^ 13 = 8192 by rfl] at this
    omega
  have HE := hid (show k + pcK (symP l ⟨idx, ext, more⟩) = k + lenF l idx + ext ∧ N + pcN (symP l ⟨idx, ext, more⟩) * 2 ^ k = N + revB (codeF l idx) (lenF l idx) * 2 ^ k + more * 2 ^ (k + lenF l idx) by
    refine ⟨by show k + (lenF l idx + (ext + 0)) = _; omega, ?_⟩
    show N + (revB (codeF l idx) (lenF l idx) + 2 ^ lenF l idx * (more + 2 ^ ext * 0)) * 2 ^ k = _
    rw [Nat.mul_zero, Nat.add_zero, Nat.add_mul, Nat.pow_add, Nat.mul_comm (2 ^ lenF l idx) more, Nat.mul_assoc, Nat.mul_comm (2 ^ lenF l idx) (2 ^ k), Nat.add_assoc])
  rw [HE.out.1, HE.out.2]
  have q1 := hc.lc idx (by rw [hll.out]; exact hi)
  have q2 := hc.uc idx (by rw [hll.out]; exact hi)
  generalize lenF l idx = ln at *
  generalize revB (codeF l idx) ln = rv at *
  have hwl := hc.l1
  have hwu := hc.u1
  have HPA := hid (fun F1 w1 h1 => put_ok F1 g k N (by omega) rv hv32 ln (by omega) hrv w1 h1)
  have HPB := hid (fun F1 w1 h1 => put_ok F1 g (k + ln) (N + rv * 2 ^ k) (by omega) more hm32 ext (by omega) hm w1 h1)
  have hidx : (idx : Int) < len := by omega
  have B1 := hid ((Bw.refl w).alloc (.cells #[.slice (some ⟨lb, 0, none⟩) len lc, .slice (some ⟨ub, 0, none⟩) len uc] 35))
  have B2 := hid (B1.out.alloc (.cells #[.int .i64 idx, .int .i64 ext, .int .u32 more] 61))
  have Z1 := hid (show (w.alloc (.cells #[.slice (some ⟨lb, 0, none⟩) len lc, .slice (some ⟨ub, 0, none⟩) len uc] 35)).heap.size = w.heap.size + 1 by simp)
  have C1 := hid ((Has.new w 35 #[.slice (some ⟨lb, 0, none⟩) len lc, .slice (some ⟨ub, 0, none⟩) len uc]).alloc (.cells #[.int .i64 idx, .int .i64 ext, .int .u32 more] 61))
  have C2 := hid (Has.new (w.alloc (.cells #[.slice (some ⟨lb, 0, none⟩) len lc, .slice (some ⟨ub, 0, none⟩) len uc] 35)) 61 #[.int .i64 idx, .int .i64 ext, .int .u32 more])
  rw [Z1.out] at C2
  have HW := hid h
  have HR := hid (show ∀ W, Bw w W → W.cell? ⟨lb, idx, none⟩ = some (.int .i64 ln) ∧ W.cell? ⟨ub, idx, none⟩ = some (.int .u32 rv) from fun W hb => ⟨(World.cell?_of_block (hb.block lb hwl)).trans q1, (World.cell?_of_block (hb.block ub hwu)).trans q2⟩)
  clear hc hIC h q1 q2 Z1 B1
  unfold codeV
  go_enter Tryd.func27, Tryd.ntmps27
  go_wp2_with fail
  generalize (w.alloc (.cells #[.slice (some ⟨lb, 0, none⟩) len lc, .slice (some ⟨ub, 0, none⟩) len uc] 35)).alloc (.cells #[.int .i64 idx, .int .i64 ext, .int .u32 more] 61) = W2 at *
  have HWd := hid (show WrF F W2.drew g k N from HW.out.keep (G := fun _ => False) (.of_bw (Bw.drewN B2.out 1)) fun _ _ h => h)
  have HS := hid (show ∀ W, Bw W2 W → (W.cell? ⟨w.heap.size, 0, none⟩ = some (.slice (some ⟨lb, 0, none⟩) len lc) ∧ W.cell? ⟨w.heap.size, 1, none⟩ = some (.slice (some ⟨ub, 0, none⟩) len uc)) ∧ W.cell? ⟨w.heap.size + 1, 0, none⟩ = some (.int .i64 idx) ∧ W.cell? ⟨w.heap.size + 1, 1, none⟩ = some (.int .i64 ext) ∧ W.cell? ⟨w.heap.size + 1, 2, none⟩ = some (.int .u32 more) from fun W hb => ⟨⟨(hb.has C1.out).cell 0, (hb.has C1.out).cell 1⟩, (hb.has C2.out).cell 0, (hb.has C2.out).cell 1, (hb.has C2.out).cell 2⟩)
  have c1 : W2.drew.cell? ⟨w.heap.size, 0, none⟩ = some (.slice (some ⟨lb, 0, none⟩) len lc) := (HS.out W2.drew ((Bw.refl W2).drewN 1)).1.1
  have c2 : W2.drew.cell? ⟨w.heap.size, 1, none⟩ = some (.slice (some ⟨ub, 0, none⟩) len uc) := (HS.out W2.drew ((Bw.refl W2).drewN 1)).1.2
  have c3 : W2.drew.cell? ⟨w.heap.size + 1, 0, none⟩ = some (.int .i64 idx) := (HS.out W2.drew ((Bw.refl W2).drewN 1)).2.1
  have c4 := (HR.out W2.drew (Bw.drewN B2.out 1)).1
  have c5 := (HR.out W2.drew (Bw.drewN B2.out 1)).2
  generalize hW2d : W2.drew = W3 at *
  go_still_tail 15, (by kernel_rfl)
  change wpList _ _ _ _ _ W2.drew
  rw [hW2d]
  clear c1 c2 c3 c4 c5
  go_wp2_with fail
  refine (HPA.out F W3 HWd.out).mono ?_
  rintro e w3 ⟨rfl, F3, hw3, hk3, hf3⟩
  have HW3 := hid hw3
  have HK3 := hid (show Keeps F w w3 from (Keeps.of_bw (by rw [← hW2d]; exact Bw.drewN B2.out 1)).trans hk3)
  have HF3 := hid (show ∀ i, F3 i → F i ∨ w.heap.size ≤ i from fun i hi => (hf3 i hi).imp id fun hh => Nat.le_trans (by rw [← hW2d]; exact (Bw.drewN B2.out 1).size) hh)
  have hs2 := (HS.out W3 (by rw [← hW2d]; exact (Bw.refl W2).drewN 1)).2
  have hbl : ¬ F (w.heap.size + 1) := fun hh => by
    obtain ⟨_, _, _, _, _, h5⟩ := HW.out
    have := h5 _ hh
    omega
  have hC3 := hk3.has (show Has W3 (w.heap.size + 1) 61 _ by rw [← hW2d]; exact C2.out.drewN 1) hbl
  have c1 : w3.drew.cell? ⟨w.heap.size + 1, 1, none⟩ = some (.int .i64 ext) := hC3.drew.cell 1
  have c2 : w3.drew.cell? ⟨w.heap.size + 1, 2, none⟩ = some (.int .u32 more) := hC3.drew.cell 2
  have HWe := hid (show WrF F3 w3.drew g (k + ln) (N + rv * 2 ^ k) from hw3.keep (G := fun _ => False) (.of_bw ((Bw.refl w3).drewN 1)) fun _ _ h => h)
  have HKe := hid (show Keeps F w w3.drew from HK3.out.drewN 1)
  clear hw3 hk3 hf3 hs2 hC3
  go_wp2_with fail
  generalize hW3d : w3.drew = W4 at *
  go_still_tail 7, (by kernel_rfl)
  change wpList _ _ _ _ _ w3.drew
  rw [hW3d]
  clear c1 c2
  go_wp2_with fail
  refine (HPB.out F3 W4 HWe.out).mono ?_
  rintro e w5 ⟨rfl, h5⟩
  have H5 := hid (WPost.step HKe.out HF3.out h5)
  clear h5
  go_wp2
  go_returns
  exact ⟨rfl, H5.out⟩
end Go.Proofs.YtacgnadhpgkcmaaDoor
/- All tokens' symbols, written (contract of the method). -/
namespace Go.Proofs.YtacgnadhpgkcmaaDoor
open Go.RowKit Go.Conc
set_option linter.unusedVariables false
theorem WPost.bw {F : Nat → Prop} {g k N : Nat} {w w1 w2 : World} (h : WPost F g k N w w1) (hb : Bw w1 w2) : WPost F g k N w w2 := by
  obtain ⟨F1, h1, h2, h3⟩ := h
  exact ⟨F1, h1.keep (G := fun _ => False) (.of_bw hb) fun _ _ h => h, h2.trans (.of_bw hb), h3⟩
theorem WPost.has {F : Nat → Prop} {g k N : Nat} {w w1 : World} (h : WPost F g k N w w1) {b : Nat} {t : TypeId} {cs : Array Value} (k : Has w b t cs) (hb : ¬ F b) : Has w1 b t cs := by
  obtain ⟨F1, h1, h2, h3⟩ := h
  exact h2.has k hb
theorem symbol_at (F : Nat → Prop) (g k N lb lc ub uc len : Nat) (l : List Int) (hIC : IsCode l) (hll : Hid (l.length = len)) (idx ext more : Nat) (hi : idx < len) (hx : ext ≤ 13) (hm : more < 2 ^ ext) (hk : k ≤ 1125899906842000) (W w : World) (hc : CodeAt W lb ub l) (h1 : ¬ F lb) (h2 : ¬ F ub) (h : WPost F g k N W w) :
    Calls Tryd.prog 27 #[.pointer (some ⟨g, 0, none⟩), codeV lb lc ub uc len, .agg #[.int .i64 idx, .int .i64 ext, .int .u32 more]] w fun e w' => e = .returned (.tuple #[]) ∧ WPost F g (k + pcK (symP l ⟨idx, ext, more⟩)) (N + pcN (symP l ⟨idx, ext, more⟩) * 2 ^ k) W w' := by
  obtain ⟨F1, hw, hk1, hf⟩ := h
  refine (symbol_any F1 g k N lb lc ub uc len l hIC hll idx ext more hi hx hm hk w hw (hc.keep hk1 h1 h2) (WPost.more hf hc.l1 h1) (WPost.more hf hc.u1 h2)).mono ?_
  rintro e w' ⟨rfl, h3⟩
  exact ⟨rfl, h3.step hk1 hf⟩
/-- The first j tokens' symbols. -/
def preP (L D : List Int) (ts : List TokR) (j : Nat) : List (Nat × Nat) := (ts.take j).flatMap (tokP L D)
theorem preP_zero (L D : List Int) (ts : List TokR) : preP L D ts 0 = [] := rfl
theorem preP_succ (L D : List Int) (ts : List TokR) (j : Nat) (h : j < ts.length) : preP L D ts (j + 1) = preP L D ts j ++ tokP L D ts[j] := by
  unfold preP
  rw [List.take_succ_eq_append_getElem h, List.flatMap_append, List.flatMap_singleton]
theorem preP_all (L D : List Int) (ts : List TokR) : preP L D ts ts.length = ts.flatMap (tokP L D) := by unfold preP; rw [List.take_length]
theorem preP_le {L D : List Int} (hL : IsCode L) (hD : IsCode D) {ts : List TokR} (h : costOk ts = true) (hl : ∀ t ∈ ts, t.lit < 256) (j : Nat) : pcK (preP L D ts j) ≤ 56 * ts.length := by
  have h1 : costOk (ts.take j) = true := by
    unfold costOk at h ⊢
    rw [List.all_eq_true] at h ⊢
    exact fun x hx => h x (List.mem_of_mem_take hx)
  have h2 := toks_le hL hD (ts.take j) h1 fun t ht => hl t (List.mem_of_mem_take ht)
  have h3 : (ts.take j).length ≤ ts.length := by rw [List.length_take]; omega
  exact Nat.le_trans h2 (Nat.mul_le_mul_left 56 h3)
/-- Its symbols have codes' places. -/
def TokIn (len len2 : Nat) (t : TokR) : Prop := (litY t).idx < len ∧ (isB t = false → (dstY t).idx < len2)
set_option maxRecDepth 100000 in
set_option maxHeartbeats 4000000 in
theorem tokens_any (F : Nat → Prop) (g k N lb lc ub uc len lb2 lc2 ub2 uc2 len2 : Nat) (L D : List Int) (hL : IsCode L) (hD : IsCode D) (hLl : Hid (L.length = len)) (hDl : Hid (D.length = len2)) (h256 : 256 < len)
    (a : Option Addr) (n cap : Nat) (ts : List TokR) (hts : Hid (ts.length = n)) (hn : n ≤ 1000000) (hok : costOk ts = true) (hin : ∀ t ∈ ts, TokIn len len2 t) (hk : k ≤ 562949953420000)
    (w : World) (h : WrF F w g k N) (hcL : CodeAt w lb ub L) (hcD : CodeAt w lb2 ub2 D) (f1 : ¬ F lb) (f2 : ¬ F ub) (f3 : ¬ F lb2) (f4 : ¬ F ub2) (hst : ToksAt w a ts) (fa : ∀ b o, 0 < n → a = some ⟨b, o, none⟩ → ¬ F b) :
    Calls Tryd.prog 13 #[.pointer (some ⟨g, 0, none⟩), .slice a n cap, .agg #[.slice (some ⟨lb, 0, none⟩) len lc, .slice (some ⟨ub, 0, none⟩) len uc, .slice (some ⟨lb2, 0, none⟩) len2 lc2, .slice (some ⟨ub2, 0, none⟩) len2 uc2]] w fun e w' => e = .returned (.tuple #[]) ∧ WPost F g (k + pcK (toksP L D ts)) (N + pcN (toksP L D ts) * 2 ^ k) w w' := by
  have hlit : ∀ t ∈ ts, t.lit < 256 := fun t ht => by
    obtain ⟨i, hi, rfl⟩ := List.getElem_of_mem ht
    obtain ⟨_, _, _, _, _, _, _, h⟩ := hst i hi
    exact h
  have HPL := hid (preP_le hL hD hok hlit)
  rw [hts.out] at HPL
  have hFw : ∀ i, F i → i < w.heap.size := by obtain ⟨_, _, _, _, _, h5⟩ := h; exact h5
  have HFw := hid hFw
  have HOK := hid (show ∀ t ∈ ts, tokOk t = true from List.all_eq_true.1 hok)
  have HIN := hid hin
  have HLIT := hid hlit
  have HLC := hid hL
  have HDC := hid hD
  have B1 := hid ((Bw.refl w).alloc (.cells #[.slice (some ⟨lb, 0, none⟩) len lc, .slice (some ⟨ub, 0, none⟩) len uc, .slice (some ⟨lb2, 0, none⟩) len2 lc2, .slice (some ⟨ub2, 0, none⟩) len2 uc2] 37))
  have C1 := hid (Has.new w 37 #[.slice (some ⟨lb, 0, none⟩) len lc, .slice (some ⟨ub, 0, none⟩) len uc, .slice (some ⟨lb2, 0, none⟩) len2 lc2, .slice (some ⟨ub2, 0, none⟩) len2 uc2])
  have Z1 := hid (show (w.alloc (.cells #[.slice (some ⟨lb, 0, none⟩) len lc, .slice (some ⟨ub, 0, none⟩) len uc, .slice (some ⟨lb2, 0, none⟩) len2 lc2, .slice (some ⟨ub2, 0, none⟩) len2 uc2] 37)).heap.size = w.heap.size + 1 by simp)
  have HCL := hid (hcL.bw B1.out)
  have HCD := hid (hcD.bw B1.out)
  have HST := hid (hst.below B1.out)
  have HFA := hid fa
  have HF := hid (show ¬ F lb ∧ ¬ F ub ∧ ¬ F lb2 ∧ ¬ F ub2 from ⟨f1, f2, f3, f4⟩)
  have HW := hid (show WPost F g (k + 0) (N + 0 * 2 ^ k) (w.alloc (.cells #[.slice (some ⟨lb, 0, none⟩) len lc, .slice (some ⟨ub, 0, none⟩) len uc, .slice (some ⟨lb2, 0, none⟩) len2 lc2, .slice (some ⟨ub2, 0, none⟩) len2 uc2] 37)) (w.alloc (.cells #[.slice (some ⟨lb, 0, none⟩) len lc, .slice (some ⟨ub, 0, none⟩) len uc, .slice (some ⟨lb2, 0, none⟩) len2 lc2, .slice (some ⟨ub2, 0, none⟩) len2 uc2] 37)) by
    rw [Nat.zero_mul, Nat.add_zero, Nat.add_zero]
    exact WPost.refl (h.keep (G := fun _ => False) (.of_bw B1.out) fun _ _ h => h))
  clear hlit hFw hok hin hL hD hcL hcD hst fa f1 f2 f3 f4 h
  go_enter Tryd.func13, Tryd.ntmps13
  go_wp2_with fail
  generalize w.alloc (.cells #[.slice (some ⟨lb, 0, none⟩) len lc, .slice (some ⟨ub, 0, none⟩) len uc, .slice (some ⟨lb2, 0, none⟩) len2 lc2, .slice (some ⟨ub2, 0, none⟩) len2 uc2] 37) = W1 at *
  go_loopw [10] (fun i wr => ∃ j : Nat, j ≤ n ∧ i = .int .i64 j ∧ WPost F g (k + pcK (preP L D ts j)) (N + pcN (preP L D ts j) * 2 ^ k) W1 wr) (fun i _ => n - (intOf i).toNat)
  case atStart => exact ⟨0, Nat.zero_le _, rfl, HW.out⟩
  case round =>
    rename_i wr
    obtain ⟨j, hj, rfl, hw⟩ := hrel
    by_cases hlt : j < n
    · have hlti : (j : Int) < n := by omega
      have hjl : j < ts.length := by rw [hts.out]; exact hlt
      obtain ⟨F1, hw1, hk1, hf1⟩ := hw
      have hpl := HPL.out j
      obtain ⟨ab, aoff, rfl, hab, c0, c1, c2, hv⟩ := HST.out j hjl
      have hnab := HFA.out ab aoff (by omega) rfl
      have hbl := hk1.block ab hab hnab
      have d0 : wr.cell? ⟨ab, aoff + j * 3, none⟩ = _ := (World.cell?_of_block hbl).trans c0
      have d1 : wr.cell? ⟨ab, aoff + j * 3 + 1, none⟩ = _ := (World.cell?_of_block hbl).trans c1
      have d2 : wr.cell? ⟨ab, aoff + j * 3 + 2, none⟩ = _ := (World.cell?_of_block hbl).trans c2
      have HSUC := hid (preP_succ L D ts j hjl)
      have htok := HOK.out ts[j] (List.getElem_mem hjl)
      have hTI := HIN.out ts[j] (List.getElem_mem hjl)
      generalize ts[j] = t at *
      generalize preP L D ts j = pj at *
      have HLI := hid (fun W => literal_ok t htok hv W)
      have HDI := hid (fun (hm : isM t = true) W => distance_ok t hm W)
      obtain ⟨l1, l2, l3⟩ := litY_ok htok hv
      have hyt := hTI.1
      have HTP := hid (show tokP L D t = symP L (litY t) ++ if isB t then [] else symP D (dstY t) from rfl)
      have HDY := hid (fun (hm : isM t = true) => dstY_ok hm)
      have HTI := hid hTI.2
      have HMB := hid htok
      obtain ⟨yi, yx, ym, hY⟩ : ∃ i x m, litY t = ⟨i, x, m⟩ := ⟨_, _, _, rfl⟩
      obtain ⟨zi, zx, zm, hZ⟩ : ∃ i x m, dstY t = ⟨i, x, m⟩ := ⟨_, _, _, rfl⟩
      rw [hY] at l1 l2 l3 hyt
      rw [hY] at HLI HTP
      rw [hZ] at HDI HTP HDY HTI
      obtain ⟨x0, x1, x2⟩ := t
      clear hY hZ hTI
      -- the token's own block, and what lies in this round
      obtain ⟨W2, hW2⟩ : ∃ W2, wr.alloc (.cells #[.int .u8 x0, .int .i64 x1, .int .i64 x2] 30) = W2 := ⟨_, rfl⟩
      have HB2 : Hid (Bw wr W2) := hid (by rw [← hW2]; exact (Bw.refl wr).alloc _)
      have HT2 : Hid (Has W2 wr.heap.size 30 #[.int .u8 x0, .int .i64 x1, .int .i64 x2]) := hid (by rw [← hW2]; exact Has.new wr _ _)
      have hF1 : ∀ i, F1 i → i < wr.heap.size := by obtain ⟨_, _, _, _, _, h5⟩ := hw1; exact h5
      have hbx : ¬ F1 w.heap.size := fun hh => by
        rcases hf1 _ hh with h | h
        · have := HFw.out _ h; omega
        · have := Z1.out; omega
      have HX2 : Hid (Has W2 w.heap.size 37 #[.slice (some ⟨lb, 0, none⟩) len lc, .slice (some ⟨ub, 0, none⟩) len uc, .slice (some ⟨lb2, 0, none⟩) len2 lc2, .slice (some ⟨ub2, 0, none⟩) len2 uc2]) := hid (HB2.out.has (hk1.has C1.out fun h => by have := HFw.out _ h; omega))
      have HP0 : Hid (WPost F1 g (k + pcK pj) (N + pcN pj * 2 ^ k) W2 W2) := hid (WPost.refl (hw1.keep (G := fun _ => False) (.of_bw HB2.out) fun _ _ h => h))
      have HSS : Hid (∀ V k' N', WPost F1 g k' N' W2 V → V.cell? ⟨w.heap.size, 0, none⟩ = some (.slice (some ⟨lb, 0, none⟩) len lc) ∧ V.cell? ⟨w.heap.size, 1, none⟩ = some (.slice (some ⟨ub, 0, none⟩) len uc) ∧ V.cell? ⟨wr.heap.size, 0, none⟩ = some (.int .u8 x0) ∧ V.cell? ⟨wr.heap.size, 1, none⟩ = some (.int .i64 x1) ∧ V.cell? ⟨wr.heap.size, 2, none⟩ = some (.int .i64 x2)) := hid fun V k' N' hp => by
        have h1 := hp.has HX2.out hbx
        have h2 := hp.has HT2.out fun h => by have := hF1 _ h; omega
        exact ⟨h1.cell 0, h1.cell 1, h2.cell 0, h2.cell 1, h2.cell 2⟩
      have HSD : Hid (∀ V k' N', WPost F1 g k' N' W2 V → V.cell? ⟨w.heap.size, 2, none⟩ = some (.slice (some ⟨lb2, 0, none⟩) len2 lc2) ∧ V.cell? ⟨w.heap.size, 3, none⟩ = some (.slice (some ⟨ub2, 0, none⟩) len2 uc2) ∧ V.cell? ⟨wr.heap.size, 0, none⟩ = some (.int .u8 x0) ∧ V.cell? ⟨wr.heap.size, 1, none⟩ = some (.int .i64 x1) ∧ V.cell? ⟨wr.heap.size, 2, none⟩ = some (.int .i64 x2)) := hid fun V k' N' hp => by
        have h1 := hp.has HX2.out hbx
        have h2 := hp.has HT2.out fun h => by have := hF1 _ h; omega
        exact ⟨h1.cell 2, h1.cell 3, h2.cell 0, h2.cell 1, h2.cell 2⟩
      have hcL := (HCL.out.keep hk1 HF.out.1 HF.out.2.1).bw HB2.out
      have hcD := (HCD.out.keep hk1 HF.out.2.2.1 HF.out.2.2.2).bw HB2.out
      have g1 := WPost.more hf1 HCL.out.l1 HF.out.1
      have g2 := WPost.more hf1 HCL.out.u1 HF.out.2.1
      have g3 := WPost.more hf1 HCD.out.l1 HF.out.2.2.1
      have g4 := WPost.more hf1 HCD.out.u1 HF.out.2.2.2
      have HSY := hid (fun V hp => symbol_at F1 g (k + pcK pj) (N + pcN pj * 2 ^ k) lb lc ub uc len L HLC.out hLl yi yx ym hyt (by have : yx ≤ 5 := l2; omega) l3 (by omega) W2 V hcL g1 g2 hp)
      have hk2 : k + pcK pj + pcK (symP L ⟨yi, yx, ym⟩) ≤ 1125899906842000 := by have := symP_le HLC.out (s := ⟨yi, yx, ym⟩) (by have : yx ≤ 5 := l2; show yx ≤ 13; omega); omega
      have HE1 := hid (show k + pcK pj + pcK (symP L ⟨yi, yx, ym⟩) = k + pcK (pj ++ symP L ⟨yi, yx, ym⟩) ∧ N + pcN pj * 2 ^ k + pcN (symP L ⟨yi, yx, ym⟩) * 2 ^ (k + pcK pj) = N + pcN (pj ++ symP L ⟨yi, yx, ym⟩) * 2 ^ k from ⟨by rw [pcK_app]; omega, pcN_at N k pj _⟩)
      rw [HE1.out.1] at hk2
      have HSZ := hid (fun (hi : zi < len2) (hx : zx ≤ 13) (hm : zm < 2 ^ zx) V hp => symbol_at F1 g (k + pcK (pj ++ symP L ⟨yi, yx, ym⟩)) (N + pcN (pj ++ symP L ⟨yi, yx, ym⟩) * 2 ^ k) lb2 lc2 ub2 uc2 len2 D HDC.out hDl zi zx zm hi hx hm hk2 W2 V hcD g3 g4 hp)
      have HE2 := hid (show k + pcK (pj ++ symP L ⟨yi, yx, ym⟩) + pcK (symP D ⟨zi, zx, zm⟩) = k + pcK (pj ++ symP L ⟨yi, yx, ym⟩ ++ symP D ⟨zi, zx, zm⟩) ∧ N + pcN (pj ++ symP L ⟨yi, yx, ym⟩) * 2 ^ k + pcN (symP D ⟨zi, zx, zm⟩) * 2 ^ (k + pcK (pj ++ symP L ⟨yi, yx, ym⟩)) = N + pcN (pj ++ symP L ⟨yi, yx, ym⟩ ++ symP D ⟨zi, zx, zm⟩) * 2 ^ k from ⟨by rw [pcK_app (pj ++ symP L ⟨yi, yx, ym⟩)]; omega, pcN_at N k _ _⟩)
      have HK2 := hid (show Keeps F W1 W2 from hk1.trans (.of_bw HB2.out))
      have HFF := hid hf1
      generalize hN1 : N + pcN (pj ++ symP L ⟨yi, yx, ym⟩) * 2 ^ k = N1 at *
      generalize hK1 : k + pcK (pj ++ symP L ⟨yi, yx, ym⟩) = K1 at *
      generalize N + pcN pj * 2 ^ k = N0 at *
      generalize k + pcK pj = K0 at *
      clear hk1 hf1 hw1 hcL hcD g1 g2 g3 g4 hk2 hF1 hbx htok l1 l2 l3 hyt hpl c0 c1 c2 hv hbl hnab hab
      go_wp2_with fail
      clear hW2 d0 d1 d2
      have HPd := hid (HP0.out.bw ((Bw.refl W2).drewN 1))
      go_region_held3 (fun W => W.cell? ⟨w.heap.size, 0, none⟩ = some (.slice (some ⟨lb, 0, none⟩) len lc) ∧ W.cell? ⟨w.heap.size, 1, none⟩ = some (.slice (some ⟨ub, 0, none⟩) len uc) ∧ W.cell? ⟨wr.heap.size, 0, none⟩ = some (.int .u8 x0) ∧ W.cell? ⟨wr.heap.size, 1, none⟩ = some (.int .i64 x1) ∧ W.cell? ⟨wr.heap.size, 2, none⟩ = some (.int .i64 x2))
        (first | exact HSS.out _ _ _ HPd.out | exact HSS.out _ _ _ HP2.out | exact HSS.out _ _ _ HP3.out)
        (first
          | (go_at_call 19; refine (HLI.out _).mono ?_; rintro e w2 ⟨rfl, hb2⟩; have HP2 := hid (HPd.out.bw hb2); clear hb2)
          | (go_at_call 27; refine (HSY.out _ HP2.out).mono ?_; rintro e w3 ⟨rfl, hp3⟩; have HP3 := hid hp3; clear hp3))
      have y2 := (HSS.out _ _ _ HP3.out).2.2.2.2
      have hts2 : ts.length = n := hts.out
      rw [HE1.out.1, HE1.out.2] at HP3
      cases hb : isB ⟨x0, x1, x2⟩ with
      | true =>
        obtain ⟨h2, h1⟩ := isB_iff.1 hb
        simp only at h1 h2
        subst h1 h2
        rw [hb, if_pos rfl, List.append_nil] at HTP
        have HR := hid (WPost.step HK2.out HFF.out HP3.out)
        clear hb
        go_wp2
        go_roundw
        case rel => exact ⟨j + 1, by omega, by go_num, by rw [HSUC.out, HTP.out, hK1, hN1]; exact HR.out⟩
        case measure => simp [intOf]; omega
      | false =>
        have hm : isM ⟨x0, x1, x2⟩ = true := by
          have := HMB.out
          simpa [tokOk, hb] using this
        have h1 := (isM_iff.1 hm).1
        simp only at h1
        have h1d : decide (0 < x2) = true := decide_eq_true (by omega)
        obtain ⟨zl1, zl2, zl3⟩ := HDY.out hm
        have HSZ := hid (HSZ.out (HTI.out hb) zl2 zl3)
        have HDI := hid (HDI.out hm)
        rw [hb, if_neg (by simp)] at HTP
        clear hb hm
        go_wp2_with fail
        have HPe := hid (HP3.out.bw ((Bw.refl w3).drewN 1))
        go_region_held3 (fun W => W.cell? ⟨w.heap.size, 2, none⟩ = some (.slice (some ⟨lb2, 0, none⟩) len2 lc2) ∧ W.cell? ⟨w.heap.size, 3, none⟩ = some (.slice (some ⟨ub2, 0, none⟩) len2 uc2) ∧ W.cell? ⟨wr.heap.size, 0, none⟩ = some (.int .u8 x0) ∧ W.cell? ⟨wr.heap.size, 1, none⟩ = some (.int .i64 x1) ∧ W.cell? ⟨wr.heap.size, 2, none⟩ = some (.int .i64 x2))
          (first | exact HSD.out _ _ _ HPe.out | exact HSD.out _ _ _ HP4.out | exact HSD.out _ _ _ HP5.out)
          (first
            | (go_at_call 20; refine (HDI.out _).mono ?_; rintro e w4 ⟨rfl, hb4⟩; have HP4 := hid (HPe.out.bw hb4); clear hb4)
            | (go_at_call 27; refine (HSZ.out _ HP4.out).mono ?_; rintro e w5 ⟨rfl, hp5⟩; have HP5 := hid hp5; clear hp5))
        rw [HE2.out.1, HE2.out.2] at HP5
        have HR := hid (WPost.step HK2.out HFF.out HP5.out)
        go_wp2
        go_roundw
        case rel => exact ⟨j + 1, by omega, by go_num, by rw [HSUC.out, HTP.out, ← List.append_assoc]; exact HR.out⟩
        case measure => simp [intOf]; omega
    · obtain rfl : j = n := by omega
      have HPD := hid (hw.bw ((Bw.refl wr).drewN 1))
      have HPA := hid (preP_all L D ts)
      rw [hts.out] at HPA
      have hb : ¬ F w.heap.size := fun hh => absurd (HFw.out _ hh) (Nat.lt_irrefl w.heap.size)
      have hX := hw.has C1.out hb
      have q0 := hX.cell 0
      have q1 := hX.cell 1
      have hpl := HPL.out j
      have HSY := hid (fun V hp => symbol_at F g (k + pcK (preP L D ts j)) (N + pcN (preP L D ts j) * 2 ^ k) lb lc ub uc len L HLC.out hLl 256 0 0 h256 (by decide) (by decide) (by omega) W1 V HCL.out HF.out.1 HF.out.2.1 hp)
      have HE := hid (show k + pcK (preP L D ts j) + pcK (symP L ⟨256, 0, 0⟩) = k + pcK (toksP L D ts) ∧ N + pcN (preP L D ts j) * 2 ^ k + pcN (symP L ⟨256, 0, 0⟩) * 2 ^ (k + pcK (preP L D ts j)) = N + pcN (toksP L D ts) * 2 ^ k by
        rw [HPA.out]
        exact ⟨by unfold toksP; rw [pcK_app]; omega, pcN_at N k _ _⟩)
      have HW0 := hid hw
      clear hX hpl hb hw
      go_wp2_with fail
      refine (HSY.out _ HW0.out).mono ?_
      rintro e w5 ⟨rfl, h5⟩
      rw [HE.out.1, HE.out.2] at h5
      have H5 := hid (WPost.step (.of_bw B1.out) (fun i hi => .inl hi) h5)
      clear h5
      go_wp2
      go_returns
      exact ⟨rfl, H5.out⟩
end Go.Proofs.YtacgnadhpgkcmaaDoor
/- The fixed codes (contract of the function). -/
namespace Go.Proofs.YtacgnadhpgkcmaaDoor
open Go.RowKit Go.Conc
set_option linter.unusedVariables false
def fillArr (f : Nat → Nat) (N k : Nat) : Array Value := ((List.range N).map fun i => Value.int .i64 (if i < k then (f i : Int) else 0)).toArray
theorem fillArr_get (f : Nat → Nat) (N k i : Nat) (h : i < N) : (fillArr f N k)[i]? = some (.int .i64 (if i < k then (f i : Int) else 0)) := by simp [fillArr, h]
theorem fillArr_put (f : Nat → Nat) (N k : Nat) (h : k < N) : (fillArr f N k).setIfInBounds k (.int .i64 (f k)) = fillArr f N (k + 1) := by
  apply Array.ext_getElem?
  intro i
  have hsz : (fillArr f N k).size = N := by simp [fillArr]
  rw [Array.getElem?_setIfInBounds, hsz]
  by_cases hi : i < N
  · rw [fillArr_get f N (k + 1) i hi]
    by_cases e : k = i
    · subst e
      rw [if_pos rfl, if_pos h, if_pos (by omega)]
    · rw [if_neg e, fillArr_get f N k i hi]
      by_cases hik : i < k
      · rw [if_pos hik, if_pos (by omega)]
      · rw [if_neg hik, if_neg (by omega)]
  · have e : k ≠ i := by omega
    rw [if_neg e, Array.getElem?_eq_none (by rw [hsz]; omega), Array.getElem?_eq_none (by simp [fillArr]; omega)]
theorem madeCells_fill (f : Nat → Nat) (N : Nat) : madeCells (Value.int .i64 0).cells (N * 1) = fillArr f N 0 := by
  apply Array.ext
  · simp [madeCells, fillArr]
  · intro i h1 h2
    simp [madeCells, fillArr, Value.cells, Nat.mod_one]
theorem make_fill (f : Nat → Nat) (N : Nat) (hN : N ≤ 100000) (w : World) : (Instr.makeSlice 32 (.int .i64 N) (.int .i64 N)).run Tryd.prog w = .ok (.slice (some ⟨w.heap.size, 0, none⟩) N N) (w.alloc (.cells (fillArr f N 0) 3)) := by
  obtain ⟨i0, hinf, hz0, hz1, hz2⟩ := info_parts intInfo
  have := run_makeSlice (P := Tryd.prog) (w := w) 32 3 i0 (.int .i64 0) Tryd.underlying32 hinf hz0 .i64 .i64 N N (by omega) (by omega) (by rw [hz1]; simp; omega) (by rw [hz2]; omega) (by omega)
  rw [this, hz1]
  simp only [Int.toNat_natCast]
  rw [madeCells_fill f N]

/-- The fixed codes' lengths. -/
def fixLL : List Int := (List.range 288).map fun i => ((fxL i : Nat) : Int)
def fixDD : List Int := (List.range 32).map fun _ => (5 : Int)
theorem fixLL_len : fixLL.length = 288 := by decide +kernel
theorem fixDD_len : fixDD.length = 32 := by decide +kernel
set_option maxRecDepth 100000 in
theorem fixLL_check : checkE fixLL = 0 := by decide +kernel
set_option maxRecDepth 100000 in
theorem fixDD_check : checkE fixDD = 0 := by decide +kernel
theorem fill_zs {w : World} {b n : Nat} {t : TypeId} {f : Nat → Nat} {l : List Int} (h : Has w b t (fillArr f n n)) (hl : l = (List.range n).map fun i => ((f i : Nat) : Int)) : ZsAt w (some ⟨b, 0, none⟩) l := fun i hi => by
  subst hl
  have hn : i < n := by simpa using hi
  refine ⟨b, 0, rfl, h.lt, ?_⟩
  rw [Nat.zero_add, h.cell i, fillArr_get f n n i hn, if_pos hn]
  simp
theorem Has.eq {w : World} {g : Nat} {t : TypeId} {cs cs' : Array Value} (h : Has w g t cs) (e : cs = cs') : Has w g t cs' := e ▸ h
def codes4 (lb lc ub uc len lb2 lc2 ub2 uc2 len2 : Nat) : Value := .agg #[.slice (some ⟨lb, 0, none⟩) len lc, .slice (some ⟨ub, 0, none⟩) len uc, .slice (some ⟨lb2, 0, none⟩) len2 lc2, .slice (some ⟨ub2, 0, none⟩) len2 uc2]
/-- Both codes, new in memory. -/
structure Codes2 (w w' : World) (lb ub lb2 ub2 : Nat) (L D : List Int) : Prop where
  l : CodeAt w' lb ub L
  d : CodeAt w' lb2 ub2 D
  new : w.heap.size ≤ lb ∧ w.heap.size ≤ ub ∧ w.heap.size ≤ lb2 ∧ w.heap.size ≤ ub2
set_option maxRecDepth 100000 in
set_option maxHeartbeats 4000000 in
theorem fixedCodes_any (w : World) :
    Calls Tryd.prog 16 #[] w fun e w' => ∃ lb ub uc lb2 ub2 uc2, e = .returned (codes4 lb 288 ub uc 288 lb2 32 ub2 uc2 32) ∧ Codes2 w w' lb ub lb2 ub2 fixLL fixDD ∧ Bw w w' := by
  have hm1 : ∀ W : World, (Instr.makeSlice 32 (.int .i64 288) (.int .i64 288)).run Tryd.prog W = .ok (.slice (some ⟨W.heap.size, 0, none⟩) 288 288) (W.alloc (.cells (fillArr fxL 288 0) 3)) := fun W => make_fill fxL 288 (by decide) W
  have hm2 : ∀ W : World, (Instr.makeSlice 32 (.int .i64 32) (.int .i64 32)).run Tryd.prog W = .ok (.slice (some ⟨W.heap.size, 0, none⟩) 32 32) (W.alloc (.cells (fillArr (fun _ => 5) 32 0) 3)) := fun W => make_fill (fun _ => 5) 32 (by decide) W
  have HFL := hid (fun j (hj : j < 288) W => fixedLength_any j hj W)
  go_enter Tryd.func16, Tryd.ntmps16
  go_wp2_with fail
  have HN := hid ((Has.new w 37 #[.slice none 0 0, .slice none 0 0, .slice none 0 0, .slice none 0 0]).alloc (.cells (fillArr fxL 288 0) 3))
  have HA := hid (Has.new (w.alloc (.cells #[.slice none 0 0, .slice none 0 0, .slice none 0 0, .slice none 0 0] 37)) 3 (fillArr fxL 288 0))
  have HB := hid (((Bw.refl w).alloc (.cells #[.slice none 0 0, .slice none 0 0, .slice none 0 0, .slice none 0 0] 37)).alloc (.cells (fillArr fxL 288 0) 3))
  have HZ := hid (show ((w.alloc (.cells #[.slice none 0 0, .slice none 0 0, .slice none 0 0, .slice none 0 0] 37)).alloc (.cells (fillArr fxL 288 0) 3)).heap.size = w.heap.size + 2 by simp)
  rw [show (w.alloc (.cells #[.slice none 0 0, .slice none 0 0, .slice none 0 0, .slice none 0 0] 37)).heap.size = w.heap.size + 1 by simp] at HA
  generalize (w.alloc (.cells #[.slice none 0 0, .slice none 0 0, .slice none 0 0, .slice none 0 0] 37)).alloc (.cells (fillArr fxL 288 0) 3) = W2 at *
  obtain ⟨nb, hnb⟩ : ∃ nb, w.heap.size = nb := ⟨_, rfl⟩
  rw [hnb] at HN HA HZ ⊢
  have HNB := hid hnb
  clear hnb hm1
  go_loopw [2, 8] (fun _ i wr => ∃ j : Nat, j ≤ 288 ∧ i = .int .i64 j ∧ Bw w wr ∧ Has wr nb 37 #[.slice none 0 0, .slice none 0 0, .slice none 0 0, .slice none 0 0] ∧ Has wr (nb + 1) 3 (fillArr fxL 288 j) ∧ Hid (wr.heap.size = nb + 2)) (fun _ i _ => 288 - (intOf i).toNat)
  case atStart => exact ⟨0, by omega, rfl, HB.out, HN.out, HA.out, HZ⟩
  case round =>
    rename World => wr
    obtain ⟨j, hj, rfl, hb, hn, ha, HZr⟩ := hrel
    have HB := hid hb
    have HN3 := hid hn
    have HA3 := hid ha
    clear hb hn ha
    by_cases hlt : j < 288
    · have hj1 : (j : Int) < 288 := by omega
      go_wp2_with fail
      refine (HFL.out j hlt _).mono ?_
      rintro e w2 ⟨rfl, rfl⟩
      have HA4 := hid (HA3.out.put j (.int .i64 (fxL j)))
      rw [fillArr_put fxL 288 j hlt] at HA4
      have f0 : wr.frozen? ⟨nb + 1, j, none⟩ = false := HA3.out.frozen j
      have g0 : wr.cell? ⟨nb + 1, j, none⟩ = some (.int .i64 0) := by rw [HA3.out.cell j, fillArr_get _ _ _ _ hlt, if_neg (by omega)]
      have HNB2 := hid (show ∀ u, Bw w (wr.setCell ⟨nb + 1, j, none⟩ u) from fun u => Below.setCell HB.out (show w.heap.size ≤ nb + 1 by have := HNB.out; omega) u)
      have HN4 := hid (HN3.out.far (p := ⟨nb + 1, j, none⟩) (show nb ≠ nb + 1 by omega) (.int .i64 (fxL j)))
      have HZ4 := hid (show (wr.setCell ⟨nb + 1, j, none⟩ (.int .i64 (fxL j))).heap.size = nb + 2 by rw [← HZr.out]; simp [World.setCell])
      clear hlt
      go_wp2
      exact ⟨⟨j + 1, by omega, by go_num, HNB2.out _, HN4.out, HA4.out, HZ4⟩, by simp [intOf]; omega⟩
    · have HJ := hid (show j = 288 by omega)
      have hj2 : ¬ (j : Int) < 288 := by omega
      have HB5 := hid (HB.out.alloc (.cells (fillArr (fun _ => 5) 32 0) 3))
      have HN5 := hid (HN3.out.alloc (.cells (fillArr (fun _ => 5) 32 0) 3))
      have HA5 := hid (HA3.out.alloc (.cells (fillArr (fun _ => 5) 32 0) 3))
      have HD5 := hid (Has.new wr 3 (fillArr (fun _ => 5) 32 0))
      have hzr : wr.heap.size = nb + 2 := HZr.out
      rw [hzr] at HD5
      go_wp2_with fail
      generalize wr.alloc (.cells (fillArr (fun _ => 5) 32 0) 3) = W5 at *
      clear hzr hj2
      go_loopw [4, 20] (fun _ i wi => ∃ m : Nat, m ≤ 32 ∧ i = .int .i64 m ∧ Bw w wi ∧ Has wi nb 37 #[.slice none 0 0, .slice none 0 0, .slice none 0 0, .slice none 0 0] ∧ Has wi (nb + 1) 3 (fillArr fxL 288 j) ∧ Has wi (nb + 2) 3 (fillArr (fun _ => 5) 32 m)) (fun _ i _ => 32 - (intOf i).toNat)
      case atStart => exact ⟨0, by omega, rfl, HB5.out, HN5.out, HA5.out, HD5.out⟩
      case round =>
        rename World => wi
        obtain ⟨m, hm, rfl, hb, hn, ha, hd⟩ := hrel
        have HB6 := hid hb
        have HN6 := hid hn
        have HA6 := hid ha
        have HD6 := hid hd
        clear hb hn ha hd
        by_cases hlt : m < 32
        · have hm1 : (m : Int) < 32 := by omega
          have HD7 := hid (HD6.out.put m (.int .i64 (5 : Nat)))
          rw [fillArr_put (fun _ => 5) 32 m hlt] at HD7
          have f0 : wi.frozen? ⟨nb + 2, m, none⟩ = false := HD6.out.frozen m
          have g0 : wi.cell? ⟨nb + 2, m, none⟩ = some (.int .i64 0) := by rw [HD6.out.cell m, fillArr_get _ _ _ _ hlt, if_neg (by omega)]
          have HB7 := hid (show Bw w (wi.setCell ⟨nb + 2, m, none⟩ (.int .i64 5)) from Below.setCell HB6.out (show w.heap.size ≤ nb + 2 by have := HNB.out; omega) _)
          have HN7 := hid (HN6.out.far (p := ⟨nb + 2, m, none⟩) (show nb ≠ nb + 2 by omega) (.int .i64 5))
          have HA7 := hid (HA6.out.far (p := ⟨nb + 2, m, none⟩) (show nb + 1 ≠ nb + 2 by omega) (.int .i64 5))
          clear hlt
          go_wp2
          exact ⟨⟨m + 1, by omega, by go_num, HB7.out, HN7.out, HA7.out, HD7.out⟩, by simp [intOf]; omega⟩
        · have HM := hid (show m = 32 by omega)
          have hm2 : ¬ (m : Int) < 32 := by omega
          have HZA := hid (fill_zs (l := fixLL) (HA6.out.eq (by rw [HJ.out])) rfl)
          have HZD := hid (fill_zs (l := fixDD) (HD6.out.eq (by rw [HM.out])) rfl)
          have HC1 := hid (newCode_any (nb + 1) 288 288 fixLL (hid fixLL_len) (by decide) fixLL_check wi HZA.out)
          have HC2 := hid (fun W (hb : Bw wi W) => newCode_any (nb + 2) 32 32 fixDD (hid fixDD_len) (by decide) fixDD_check W (HZD.out.bw hb))
          have hwi := HB6.out.size
          have hnl := HN6.out.lt
          have hnd := HD6.out.lt
          go_wp2_with fail
          refine HC1.out.mono ?_
          rintro e w7 ⟨ub, uc, rfl, hu, hc1, hb7⟩
          unfold codeV
          have HX1 := hid hc1
          have HB7 := hid hb7
          have hs7 := hb7.size
          clear hc1 hb7
          go_wp2_with fail
          refine (HC2.out _ HB7.out).mono ?_
          rintro e w8 ⟨ub2, uc2, rfl, hu2, hc2, hb8⟩
          unfold codeV
          have HX8 := hid (HX1.out.bw hb8)
          have HY8 := hid hc2
          have HBI := hid (HB7.out.trans hb8)
          have HB8 := hid (HB6.out.trans HBI.out)
          have HN8 := hid (HBI.out.has HN6.out)
          have n0 := HN8.out.cell 0
          have n1 := HN8.out.cell 1
          have n2 := HN8.out.cell 2
          have n3 := HN8.out.cell 3
          have f0 := HN8.out.frozen 0
          have f1 := HN8.out.frozen 1
          have f2 := HN8.out.frozen 2
          have f3 := HN8.out.frozen 3
          have HP := hid ((((HN8.out.put 0 (.slice (some ⟨nb + 1, 0, none⟩) 288 288)).put 1 (.slice (some ⟨ub, 0, none⟩) 288 uc)).put 2 (.slice (some ⟨nb + 2, 0, none⟩) 32 32)).put 3 (.slice (some ⟨ub2, 0, none⟩) 32 uc2))
          have HBW := hid (show Bw w _ from (Below.setCell (Below.setCell (Below.setCell (Below.setCell HB8.out (p := ⟨nb, 0, none⟩) (show w.heap.size ≤ nb by have := HNB.out; omega) (.slice (some ⟨nb + 1, 0, none⟩) 288 288)) (p := ⟨nb, 1, none⟩) (show w.heap.size ≤ nb by have := HNB.out; omega) (.slice (some ⟨ub, 0, none⟩) 288 uc)) (p := ⟨nb, 2, none⟩) (show w.heap.size ≤ nb by have := HNB.out; omega) (.slice (some ⟨nb + 2, 0, none⟩) 32 32)) (p := ⟨nb, 3, none⟩) (show w.heap.size ≤ nb by have := HNB.out; omega) (.slice (some ⟨ub2, 0, none⟩) 32 uc2)))
          have HKB := hid (show ∀ b, b ≠ nb → ((((w8.setCell ⟨nb, 0, none⟩ (.slice (some ⟨nb + 1, 0, none⟩) 288 288)).setCell ⟨nb, 1, none⟩ (.slice (some ⟨ub, 0, none⟩) 288 uc)).setCell ⟨nb, 2, none⟩ (.slice (some ⟨nb + 2, 0, none⟩) 32 32)).setCell ⟨nb, 3, none⟩ (.slice (some ⟨ub2, 0, none⟩) 32 uc2)).heap[b]? = w8.heap[b]? from fun b hb => ((Below.heap_setCell _ ⟨nb, 3, none⟩ _ b hb).trans ((Below.heap_setCell _ ⟨nb, 2, none⟩ _ b hb).trans ((Below.heap_setCell _ ⟨nb, 1, none⟩ _ b hb).trans ((Below.heap_setCell _ ⟨nb, 0, none⟩ _ b hb).trans rfl)))))
          have HSZ := hid (show ((((w8.setCell ⟨nb, 0, none⟩ (.slice (some ⟨nb + 1, 0, none⟩) 288 288)).setCell ⟨nb, 1, none⟩ (.slice (some ⟨ub, 0, none⟩) 288 uc)).setCell ⟨nb, 2, none⟩ (.slice (some ⟨nb + 2, 0, none⟩) 32 32)).setCell ⟨nb, 3, none⟩ (.slice (some ⟨ub2, 0, none⟩) 32 uc2)).heap.size = w8.heap.size by simp only [World.size_setCell])
          clear hc2 hb8
          go_wp2
          generalize (((w8.setCell ⟨nb, 0, none⟩ (.slice (some ⟨nb + 1, 0, none⟩) 288 288)).setCell ⟨nb, 1, none⟩ (.slice (some ⟨ub, 0, none⟩) 288 uc)).setCell ⟨nb, 2, none⟩ (.slice (some ⟨nb + 2, 0, none⟩) 32 32)).setCell ⟨nb, 3, none⟩ (.slice (some ⟨ub2, 0, none⟩) 32 uc2) = w9 at *
          clear n0 n1 n2 n3 f0 f1 f2 f3
          have e0 : w9.cell? ⟨nb, 0, none⟩ = some (.slice (some ⟨nb + 1, 0, none⟩) 288 288) := HP.out.cell 0
          have e1 : w9.cell? ⟨nb, 1, none⟩ = some (.slice (some ⟨ub, 0, none⟩) 288 uc) := HP.out.cell 1
          have e2 : w9.cell? ⟨nb, 2, none⟩ = some (.slice (some ⟨nb + 2, 0, none⟩) 32 32) := HP.out.cell 2
          have e3 : w9.cell? ⟨nb, 3, none⟩ = some (.slice (some ⟨ub2, 0, none⟩) 32 uc2) := HP.out.cell 3
          (try simp only [Exit.inBlock, Exit.then])
          refine bodyPost_ret (v := codes4 (nb + 1) 288 ub uc 288 (nb + 2) 32 ub2 uc2 32) (by simp [results, Tryd.results16, go_sem, codes4, e0, e1, e2, e3]; try rfl) rfl ?_
          have hn := HNB.out
          refine ⟨nb + 1, ub, uc, nb + 2, ub2, uc2, rfl, ⟨HX8.out.blocks (Nat.le_of_eq HSZ.out.symm) (HKB.out _ (by omega)) (HKB.out _ (by omega)), HY8.out.blocks (Nat.le_of_eq HSZ.out.symm) (HKB.out _ (by omega)) (HKB.out _ (by omega)), by omega, by omega, by omega, by omega⟩, HBW.out⟩
end Go.Proofs.YtacgnadhpgkcmaaDoor
/- valid, Fixed (contracts of the functions). -/
namespace Go.Proofs.YtacgnadhpgkcmaaDoor
open Go.RowKit Go.Conc
set_option linter.unusedVariables false
set_option maxHeartbeats 1000000 in
theorem valid_any (a : Option Addr) (len cap : Nat) (hlen : len ≤ 1000000) (l : List TokR) (hll : Hid (l.length = len)) (w : World) (hst : ToksAt w a l) :
    Calls Tryd.prog 9 #[.slice a len cap] w fun e w' => e = .returned (.int .i64 (costE l)) ∧ Bw w w' := by
  have HC := hid (cost_any a len cap hlen l hll w hst)
  clear hst
  generalize costE l = ce at *
  go_enter Tryd.func9, Tryd.ntmps9
  go_wp2_with fail
  refine HC.out.mono ?_
  rintro e w2 ⟨rfl, hb⟩
  have HB := hid hb
  clear hb
  go_wp2
  go_returns
  exact ⟨rfl, HB.out⟩
/-- What Fixed writes. -/
def fixP (ts : List TokR) : List (Nat × Nat) := (3, 3) :: toksP fixLL fixDD ts
def outS (p : List (Nat × Nat)) : ByteArray := strN (pcN p) ((pcK p + 7) / 8)
set_option maxHeartbeats 1000000 in
theorem Fixed_bad (a : Option Addr) (n cap : Nat) (hn : n ≤ 1000000) (ts : List TokR) (hts : Hid (ts.length = n)) (hok : costOk ts = false) (w : World) (hst : ToksAt w a ts) :
    Calls Tryd.prog 7 #[.slice a n cap] w fun e w' => e = .returned (.tuple #[.string ⟨#[]⟩, .int .i64 1]) ∧ Bw w w' := by
  have HV := hid (valid_any a n cap hn ts hts w hst)
  have hE : costE ts = 1 := by unfold costE; rw [hok]; rfl
  rw [hE] at HV
  clear hst hE
  go_enter Tryd.func7, Tryd.ntmps7
  go_wp2_with fail
  refine HV.out.mono ?_
  rintro e w2 ⟨rfl, hb⟩
  have HB := hid hb
  clear hb
  go_wp2
  go_returns
  exact ⟨rfl, HB.out⟩
theorem fix_in (t : TokR) (h : tokOk t = true) (hl : t.lit < 256) : TokIn 288 32 t := by
  refine ⟨by have := (litY_ok h hl).1; omega, fun hb => ?_⟩
  have hm : isM t = true := by simpa [tokOk, hb] using h
  have := (dstY_ok hm).1
  omega
theorem WrF.lt {F : Nat → Prop} {w : World} {g k N : Nat} (h : WrF F w g k N) {i : Nat} (hi : F i) : i < w.heap.size := by
  obtain ⟨_, _, _, _, _, h5⟩ := h
  exact h5 i hi
set_option maxRecDepth 100000 in
set_option maxHeartbeats 4000000 in
theorem Fixed_ok (a : Option Addr) (n cap : Nat) (hn : n ≤ 1000000) (ts : List TokR) (hts : Hid (ts.length = n)) (hok : costOk ts = true) (w : World) (hst : ToksAt w a ts) :
    Calls Tryd.prog 7 #[.slice a n cap] w fun e w' => e = .returned (.tuple #[.string (outS (fixP ts)), .int .i64 0]) ∧ Bw w w' := by
  have HV := hid (valid_any a n cap hn ts hts w hst)
  have hE : costE ts = 0 := by unfold costE; rw [hok]; rfl
  rw [hE] at HV
  have HST := hid hst
  have hlit : ∀ t ∈ ts, t.lit < 256 := fun t ht => by
    obtain ⟨i, hi, rfl⟩ := List.getElem_of_mem ht
    obtain ⟨_, _, _, _, _, _, _, h⟩ := hst i hi
    exact h
  have hoks : ∀ t ∈ ts, tokOk t = true := List.all_eq_true.1 hok
  have HIN := hid (fun t (ht : t ∈ ts) => fix_in t (hoks t ht) (hlit t ht))
  have HOK := hid hok
  have hpl : pcK (toksP fixLL fixDD ts) ≤ 56 * n + 28 := by
    have h1 := toks_le (IsCode.of_check fixLL_check) (IsCode.of_check fixDD_check) ts hok hlit
    have h2 := symP_le (IsCode.of_check fixLL_check) (s := ⟨256, 0, 0⟩) (by decide)
    unfold toksP
    rw [pcK_app]
    rw [hts.out] at h1
    omega
  clear hst hE hlit hoks hok
  go_enter Tryd.func7, Tryd.ntmps7
  go_wp2_with fail
  refine HV.out.mono ?_
  rintro e w1 ⟨rfl, hb⟩
  have HB1 := hid hb
  clear hb HV
  go_wp2_with fail
  have HF := hid (WrF.fresh (Has.new w1 46 #[.int .i64 0, .slice none 0 0, .int .u8 0]))
  have HB2 := hid (HB1.out.alloc (.cells #[.int .i64 0, .slice none 0 0, .int .u8 0] 46))
  have HZ2 := hid (show (w1.alloc (.cells #[.int .i64 0, .slice none 0 0, .int .u8 0] 46)).heap.size = w1.heap.size + 1 by simp)
  generalize w1.alloc (.cells #[.int .i64 0, .slice none 0 0, .int .u8 0] 46) = W2 at *
  have HZ1 := hid HB1.out.size
  obtain ⟨g, hg⟩ : ∃ g, w1.heap.size = g := ⟨_, rfl⟩
  rw [hg] at HF HZ2 HZ1 ⊢
  clear hg
  refine (begin_any (· = g) g 0 0 (by decide) 1 (by decide) true W2 HF.out).mono ?_
  rintro e w3 ⟨rfl, F3, h3, k3, f3⟩
  rw [show 0 + (lb1 true + 2 * 1) * 2 ^ 0 = 3 from rfl] at h3
  have H3 := hid h3
  have K3 := hid k3
  have FF3 := hid f3
  clear h3 k3 f3
  go_wp2_with fail
  refine (fixedCodes_any w3).mono ?_
  rintro e w4 ⟨lb, ub, uc, lb2, ub2, uc2, rfl, hC, hb4⟩
  have HC := hid hC
  have HB4 := hid hb4
  clear hC hb4
  have hW : WrF F3 w4 g 3 3 := H3.out.keep (G := fun _ => False) (.of_bw HB4.out) fun _ _ h => h
  have hnF : ∀ b, w3.heap.size ≤ b → ¬ F3 b := fun b h1 h2 => by have := H3.out.lt h2; omega
  have hK24 : Keeps (· = g) W2 w4 := K3.out.trans (.of_bw HB4.out)
  have hT : ToksAt w4 a ts := fun i hi => by
    obtain ⟨b, off, e, hl, q0, q1, q2, q3⟩ := (HST.out.below HB2.out) i hi
    obtain ⟨b', off', e', hl', _⟩ := HST.out i hi
    have : b < w.heap.size := by rw [e] at e'; injection e' with e'; injection e' with e1; omega
    have hbk := hK24.block b hl (by show ¬ b = g; have := HZ1.out; omega)
    exact ⟨b, off, e, Nat.lt_of_lt_of_le hl hK24.size, (World.cell?_of_block hbk).trans q0, (World.cell?_of_block hbk).trans q1, (World.cell?_of_block hbk).trans q2, q3⟩
  have hfa : ∀ b o, 0 < n → a = some ⟨b, o, none⟩ → ¬ F3 b := fun b o hn0 ea hF => by
    obtain ⟨b', off', e', hl', _⟩ := HST.out 0 (by rw [hts.out]; exact hn0)
    have hlt : b < w.heap.size := by rw [ea] at e'; injection e' with e'; injection e' with e1; omega
    rcases FF3.out b hF with h | h
    · have := HZ1.out; have h : b = g := h; omega
    · have := HZ1.out; have := HZ2.out; omega
  have hT2 := tokens_any F3 g 3 3 lb 288 ub uc 288 lb2 32 ub2 uc2 32 fixLL fixDD (IsCode.of_check fixLL_check) (IsCode.of_check fixDD_check) (hid fixLL_len) (hid fixDD_len) (by decide) a n cap ts hts hn HOK.out HIN.out (by decide) w4 hW HC.out.l HC.out.d (hnF _ HC.out.new.1) (hnF _ HC.out.new.2.1) (hnF _ HC.out.new.2.2.1) (hnF _ HC.out.new.2.2.2) hT hfa
  have HT2 := hid hT2
  clear hW hnF hT hfa hT2
  have HK24 := hid hK24
  clear hK24
  unfold codes4
  go_wp2_with fail
  refine HT2.out.mono ?_
  rintro e w5 ⟨rfl, h5⟩
  obtain ⟨F5, h5, k5, f5⟩ := WPost.step HK24.out FF3.out h5
  have HWS := hid (wstr_any F5 g _ _ (by omega) w5 h5)
  have HE := hid (show strN (3 + pcN (toksP fixLL fixDD ts) * 2 ^ 3) ((3 + pcK (toksP fixLL fixDD ts) + 7) / 8) = outS (fixP ts) from by
    unfold outS fixP
    rw [pcN, pcK, Nat.mul_comm])
  have HB5 := hid (show Bw w w5 from Below.trans HB2.out (k5.below (B := w.heap.size) (by have := HZ1.out; have := HZ2.out; omega) (fun i (hi : i = g) => by have := HZ1.out; omega)))
  have hF5 : F5 g := by obtain ⟨_, h, _⟩ := h5; exact h
  clear h5 k5 f5
  go_wp2_with fail
  refine HWS.out.mono ?_
  rintro e w6 ⟨rfl, hb6⟩
  rw [HE.out]
  have HB6 := hid (HB5.out.trans hb6)
  clear hb6
  go_wp2
  go_returns
  exact ⟨rfl, HB6.out⟩
end Go.Proofs.YtacgnadhpgkcmaaDoor

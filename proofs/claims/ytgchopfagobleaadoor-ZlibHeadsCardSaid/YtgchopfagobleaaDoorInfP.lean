/- Inflate, plain: a machine of small steps. No program in it. -/
import Derived.Test.YtgchopfagobleaaDoorHufS
import Derived.Test.YtgchopfagobleaaDoorBitR
import Derived.Test.YtgchopfagobleaaDoorMatM
namespace Go.Proofs.YtgchopfagobleaaDoor
set_option linter.unusedVariables false
def ordL : List Nat := [16, 17, 18, 0, 8, 7, 9, 6, 10, 5, 11, 4, 12, 3, 13, 2, 14, 1, 15]
def lenT : List (Nat × Nat) := [(3, 0), (4, 0), (5, 0), (6, 0), (7, 0), (8, 0), (9, 0), (10, 0), (11, 1), (13, 1), (15, 1), (17, 1), (19, 2), (23, 2), (27, 2), (31, 2), (35, 3), (43, 3), (51, 3), (59, 3), (67, 4), (83, 4), (99, 4), (115, 4), (131, 5), (163, 5), (195, 5), (227, 5), (258, 0)]
def distT : List (Nat × Nat) := [(1, 0), (2, 0), (3, 0), (4, 0), (5, 1), (7, 1), (9, 2), (13, 2), (17, 3), (25, 3), (33, 4), (49, 4), (65, 5), (97, 5), (129, 6), (193, 6), (257, 7), (385, 7), (513, 8), (769, 8), (1025, 9), (1537, 9), (2049, 10), (3073, 10), (4097, 11), (6145, 11), (8193, 12), (12289, 12), (16385, 13), (24577, 13)]
/-- The length that the symbol 257 + i stands for; the distance that i stands for: from where on, and how many more bits. -/
def lenR (i : Nat) : Nat × Nat := lenT.getD i (0, 0)
def distR (i : Nat) : Nat × Nat := distT.getD i (0, 0)
theorem lenR_le (i : Nat) : (lenR i).1 ≤ 258 ∧ (lenR i).2 ≤ 5 := by
  by_cases h : i < 29
  · have : (List.range 29).all (fun i => decide ((lenR i).1 ≤ 258 ∧ (lenR i).2 ≤ 5)) = true := by decide
    exact of_decide_eq_true (List.all_eq_true.1 this i (List.mem_range.2 h))
  · have e : lenR i = (0, 0) := by
      unfold lenR
      rw [List.getD_eq_getElem?_getD, List.getElem?_eq_none (by show 29 ≤ i; omega)]; rfl
    rw [e]; decide
theorem distR_le (i : Nat) : (distR i).1 ≤ 24577 ∧ (distR i).2 ≤ 13 := by
  by_cases h : i < 30
  · have : (List.range 30).all (fun i => decide ((distR i).1 ≤ 24577 ∧ (distR i).2 ≤ 13)) = true := by decide
    exact of_decide_eq_true (List.all_eq_true.1 this i (List.mem_range.2 h))
  · have e : distR i = (0, 0) := by
      unfold distR
      rw [List.getD_eq_getElem?_getD, List.getElem?_eq_none (by show 30 ≤ i; omega)]; rfl
    rw [e]; decide
def fixL : List Int := List.replicate 144 8 ++ (List.replicate 112 9 ++ (List.replicate 24 7 ++ List.replicate 8 8))
def fixD : List Int := List.replicate 32 5
inductive IMode where
  | top
  | hdr (last : Bool) (n d g i : Nat) (l : List Int)
  | seq (last : Bool) (n d : Nat) (t l : List Int)
  | sym (last : Bool) (lt dt : List Int)
structure ISt where
  m : IMode
  k : Nat
  out : List UInt8
inductive IOut where
  | go (st : ISt)
  | fin (k : Nat) (out : List UInt8)
  | bad (e : Int)
/-- A number of n bits from k on. -/
def num (s : ByteArray) (k n : Nat) (f : Nat → Nat → IOut) : IOut := if k + n ≤ 8 * s.size then f (bv s k n) (k + n) else .bad 2
/-- A symbol from k on. -/
def sym1 (s : ByteArray) (l : List Int) (k : Nat) (f : Nat → Nat → IOut) : IOut := if nextE l s k = 0 then f (nextV l s k) (nextK l s k) else .bad (nextE l s k)
def aft (last : Bool) (k : Nat) (out : List UInt8) : IOut := if last then .fin k out else .go ⟨.top, k, out⟩
def cut (s : ByteArray) (q n : Nat) : List UInt8 := (s.extract q (q + n)).data.toList
def stStored (s : ByteArray) (lim : Nat) (last : Bool) (k : Nat) (out : List UInt8) : IOut :=
  num s (upK k) 16 fun n k3 => num s k3 16 fun m k4 =>
    if m = 65535 - n then (if k4 / 8 + n ≤ s.size then (if lim < out.length + n then .bad 11 else aft last (k4 + 8 * n) (out ++ cut s (k4 / 8) n)) else .bad 2) else .bad 3
def stHead (s : ByteArray) (last : Bool) (k : Nat) (out : List UInt8) : IOut :=
  num s k 5 fun a k3 => num s k3 5 fun b k4 => num s k4 4 fun c k5 =>
    if a + 257 ≤ 286 ∧ b + 1 ≤ 30 then .go ⟨.hdr last (a + 257) (b + 1) (c + 4) 0 (List.replicate 19 0), k5, out⟩ else .bad 3
def stTop (s : ByteArray) (lim : Nat) (k : Nat) (out : List UInt8) : IOut :=
  num s k 1 fun b k1 => num s k1 2 fun kind k2 =>
    if kind = 0 then stStored s lim (b == 1) k2 out
    else if kind = 1 then .go ⟨.sym (b == 1) fixL fixD, k2, out⟩
    else if kind = 2 then stHead s (b == 1) k2 out
    else .bad 3
def stHdr (s : ByteArray) (last : Bool) (n d g i : Nat) (l : List Int) (k : Nat) (out : List UInt8) : IOut :=
  if i < g then num s k 3 fun v k1 => .go ⟨.hdr last n d g (i + 1) (l.set (ordL.getD i 0) v), k1, out⟩
  else if checkE l = 0 then .go ⟨.seq last n d l [], k, out⟩ else .bad (checkE l)
def stPut (last : Bool) (n d : Nat) (t l : List Int) (v : Int) (times : Nat) (k : Nat) (out : List UInt8) : IOut :=
  if times ≤ n + d - l.length then .go ⟨.seq last n d t (l ++ List.replicate times v), k, out⟩ else .bad 3
def stSeq (s : ByteArray) (last : Bool) (n d : Nat) (t l : List Int) (k : Nat) (out : List UInt8) : IOut :=
  if l.length < n + d then
    sym1 s t k fun x k1 =>
      if x = 16 then (if l = [] then .bad 3 else num s k1 2 fun v k2 => stPut last n d t l (l.getD (l.length - 1) 0) (3 + v) k2 out)
      else if x = 17 then num s k1 3 fun v k2 => stPut last n d t l 0 (3 + v) k2 out
      else if x = 18 then num s k1 7 fun v k2 => stPut last n d t l 0 (11 + v) k2 out
      else stPut last n d t l x 1 k1 out
  else if l.getD 256 0 = 0 then .bad 3
  else if checkE (l.take n) = 0 then (if checkE (l.drop n) = 0 then .go ⟨.sym last (l.take n) (l.drop n), k, out⟩ else .bad (checkE (l.drop n)))
  else .bad (checkE (l.take n))
def stMatch (s : ByteArray) (lim : Nat) (last : Bool) (lt dt : List Int) (x k : Nat) (out : List UInt8) : IOut :=
  if 286 ≤ x then .bad 3
  else num s k (lenR (x - 257)).2 fun v k2 => sym1 s dt k2 fun y k3 =>
    if 30 ≤ y then .bad 3
    else num s k3 (distR y).2 fun u k4 =>
      if out.length < (distR y).1 + u then .bad 3
      else if lim < out.length + ((lenR (x - 257)).1 + v) then .bad 11
      else .go ⟨.sym last lt dt, k4, rep out ((distR y).1 + u) ((lenR (x - 257)).1 + v)⟩
def stSym (s : ByteArray) (lim : Nat) (last : Bool) (lt dt : List Int) (k : Nat) (out : List UInt8) : IOut :=
  sym1 s lt k fun x k1 =>
    if x = 256 then aft last k1 out
    else if x < 256 then (if lim < out.length + 1 then .bad 11 else .go ⟨.sym last lt dt, k1, out ++ [UInt8.ofNat x]⟩)
    else stMatch s lim last lt dt x k1 out
def step (s : ByteArray) (lim : Nat) : ISt → IOut
  | ⟨.top, k, out⟩ => stTop s lim k out
  | ⟨.hdr last n d g i l, k, out⟩ => stHdr s last n d g i l k out
  | ⟨.seq last n d t l, k, out⟩ => stSeq s last n d t l k out
  | ⟨.sym last lt dt, k, out⟩ => stSym s lim last lt dt k out
theorem step_top (s : ByteArray) (lim k : Nat) (out : List UInt8) : step s lim ⟨.top, k, out⟩ = stTop s lim k out := rfl
theorem step_hdr (s : ByteArray) (lim : Nat) (last : Bool) (n d g i : Nat) (l : List Int) (k : Nat) (out : List UInt8) : step s lim ⟨.hdr last n d g i l, k, out⟩ = stHdr s last n d g i l k out := rfl
theorem step_seq (s : ByteArray) (lim : Nat) (last : Bool) (n d : Nat) (t l : List Int) (k : Nat) (out : List UInt8) : step s lim ⟨.seq last n d t l, k, out⟩ = stSeq s last n d t l k out := rfl
theorem step_sym (s : ByteArray) (lim : Nat) (last : Bool) (lt dt : List Int) (k : Nat) (out : List UInt8) : step s lim ⟨.sym last lt dt, k, out⟩ = stSym s lim last lt dt k out := rfl
def stp (s : ByteArray) (lim : Nat) : IOut → IOut
  | .go st => step s lim st
  | x => x
def itr (s : ByteArray) (lim : Nat) : Nat → IOut → IOut
  | 0, x => x
  | n + 1, x => itr s lim n (stp s lim x)
/-- From here the machine comes to there. -/
def Leads (s : ByteArray) (lim : Nat) (x y : IOut) : Prop := ∃ n, itr s lim n x = y
def IOut.ended : IOut → Bool
  | .go _ => false
  | _ => true
section
variable {s : ByteArray} {lim : Nat}
theorem itr_add (n m : Nat) (x : IOut) : itr s lim (n + m) x = itr s lim m (itr s lim n x) := by
  induction n generalizing x with
  | zero => rw [Nat.zero_add]; rfl
  | succ n ih => rw [show n + 1 + m = (n + m) + 1 by omega, itr, itr, ih]
theorem Leads.refl (x : IOut) : Leads s lim x x := ⟨0, rfl⟩
theorem Leads.trans {x y z : IOut} (h : Leads s lim x y) (k : Leads s lim y z) : Leads s lim x z := by
  obtain ⟨n, rfl⟩ := h
  obtain ⟨m, rfl⟩ := k
  exact ⟨n + m, itr_add n m x⟩
theorem Leads.one (st : ISt) : Leads s lim (.go st) (step s lim st) := ⟨1, rfl⟩
theorem Leads.then {x : IOut} {st : ISt} {y : IOut} (h : Leads s lim x (.go st)) (e : step s lim st = y) : Leads s lim x y := h.trans (e ▸ Leads.one st)
theorem itr_ended {x : IOut} (h : x.ended = true) (n : Nat) : itr s lim n x = x := by
  induction n with
  | zero => rfl
  | succ n ih =>
    rw [itr]
    have : stp s lim x = x := by cases x <;> first | rfl | (cases h)
    rw [this]; exact ih
theorem Leads.unique {x y z : IOut} (h : Leads s lim x y) (k : Leads s lim x z) (hy : y.ended = true) (hz : z.ended = true) : y = z := by
  obtain ⟨n, rfl⟩ := h
  obtain ⟨m, rfl⟩ := k
  rcases Nat.le_total n m with hnm | hnm
  · obtain ⟨j, rfl⟩ : ∃ j, m = n + j := ⟨m - n, by omega⟩
    rw [itr_add, itr_ended hy]
  · obtain ⟨j, rfl⟩ : ∃ j, n = m + j := ⟨n - m, by omega⟩
    rw [itr_add, itr_ended hz]
theorem Leads.of_itr {x y : IOut} (n : Nat) (h : itr s lim n x = y) : Leads s lim x y := ⟨n, h⟩
theorem num_ok {k n : Nat} {f : Nat → Nat → IOut} (h : k + n ≤ 8 * s.size) : num s k n f = f (bv s k n) (k + n) := if_pos h
theorem num_bad {k n : Nat} {f : Nat → Nat → IOut} (h : ¬ k + n ≤ 8 * s.size) : num s k n f = .bad 2 := if_neg h
theorem sym1_ok {l : List Int} {k : Nat} {f : Nat → Nat → IOut} (h : nextE l s k = 0) : sym1 s l k f = f (nextV l s k) (nextK l s k) := if_pos h
theorem sym1_bad {l : List Int} {k : Nat} {f : Nat → Nat → IOut} (h : ¬ nextE l s k = 0) : sym1 s l k f = .bad (nextE l s k) := if_neg h
end
/-- A symbol takes a bit at least. -/
theorem next_more {l : List Int} {s : ByteArray} {k : Nat} (h : nextE l s k = 0) (hk : k ≤ 8 * s.size) : k + 1 ≤ nextK l s k ∧ nextK l s k ≤ 8 * s.size := by
  have h8 := nextK_le l s k hk
  refine ⟨?_, h8⟩
  have hE := h
  unfold nextK
  rw [if_pos h]
  unfold nextE nextR at hE
  unfold nextR
  rw [dGo, lfK_top] at hE ⊢
  simp only at hE ⊢
  split at hE
  · split at hE
    · simp at hE
    · rename_i h1 h2
      rw [if_pos h1, if_neg h2]
      exact (dGo_le l s 15 _ (k + 1) (by omega)).1
  · simp at hE
theorem nextE_or (l : List Int) (s : ByteArray) (k : Nat) : nextE l s k = 0 ∨ nextE l s k = 2 ∨ nextE l s k = 3 := (dGo_sym l s 16 (0, 0) k).2.2.1
theorem nextV_lt {l : List Int} {s : ByteArray} {k : Nat} (h : nextE l s k = 0) : nextV l s k < l.length := ((dGo_sym l s 16 (0, 0) k).2.1 h).1
theorem fixL_len : fixL.length = 288 := by decide +kernel
theorem fixD_len : fixD.length = 32 := by decide +kernel
theorem fixL_get (i : Nat) (h : i < 288) : fixL.getD i 0 = if i < 144 then 8 else if i < 256 then 9 else if i < 280 then 7 else 8 := by
  have : (List.range 288).all (fun i => decide (fixL.getD i 0 = if i < 144 then 8 else if i < 256 then 9 else if i < 280 then 7 else 8)) = true := by decide +kernel
  exact of_decide_eq_true (List.all_eq_true.1 this i (List.mem_range.2 h))
theorem fixL_code : checkE fixL = 0 := by decide +kernel
theorem fixD_code : checkE fixD = 0 := by decide +kernel
end Go.Proofs.YtgchopfagobleaaDoor

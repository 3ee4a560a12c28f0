import Derived.Test.YtkmbgkcpohchhaaGreatDoorGHufG
import Derived.Test.YtkmbgkcpohchhaaGreatDoorGDefWH
import Derived.Test.YtkmbgkcpohchhaaGreatDoorGBase
import Derived.Test.YtkmbgkcpohchhaaGreatDoorRows
import Derived.Laws.BitsAllLaws
import Derived.Laws.ShiftsVarLaws
import Derived.IntWalk
import Derived.Lib.RabinKarpLaws
import Derived.Lib.BitFns
namespace Go.Proofs.YtkmbgkcpohchhaaGreatDoor
set_option linter.unusedVariables false
def ordL : List Nat := [16, 17, 18, 0, 8, 7, 9, 6, 10, 5, 11, 4, 12, 3, 13, 2, 14, 1, 15]
def lenT : List (Nat × Nat) := [(3, 0), (4, 0), (5, 0), (6, 0), (7, 0), (8, 0), (9, 0), (10, 0), (11, 1), (13, 1), (15, 1), (17, 1), (19, 2), (23, 2), (27, 2), (31, 2), (35, 3), (43, 3), (51, 3), (59, 3), (67, 4), (83, 4), (99, 4), (115, 4), (131, 5), (163, 5), (195, 5), (227, 5), (258, 0)]
def distT : List (Nat × Nat) := [(1, 0), (2, 0), (3, 0), (4, 0), (5, 1), (7, 1), (9, 2), (13, 2), (17, 3), (25, 3), (33, 4), (49, 4), (65, 5), (97, 5), (129, 6), (193, 6), (257, 7), (385, 7), (513, 8), (769, 8), (1025, 9), (1537, 9), (2049, 10), (3073, 10), (4097, 11), (6145, 11), (8193, 12), (12289, 12), (16385, 13), (24577, 13)]
def lenR (i : Nat) : Nat × Nat := lenT.getD i (0, 0)
def distR (i : Nat) : Nat × Nat := distT.getD i (0, 0)
theorem lenR_le (i : Nat) : (lenR i).1 ≤ 258 ∧ (lenR i).2 ≤ 5 := by
  by_cases h : i < 29
  · have : (List.range 29).all (fun i => decide ((lenR i).1 ≤ 258 ∧ (lenR i).2 ≤ 5)) = true := by decide
    exact of_decide_eq_true (List.all_eq_true.1 this i (List.mem_range.2 h))
  · have e : lenR i = (0, 0) := by
      unfold lenR
      rw [List.getD_eq_getElem?_getD, List.getElem?_eq_none (by show 29 ≤ i; omega)]; rfl
    rw [e]; decide
theorem distR_le (i : Nat) : (distR i).1 ≤ 24577 ∧ (distR i).2 ≤ 13 := by
  by_cases h : i < 30
  · have : (List.range 30).all (fun i => decide ((distR i).1 ≤ 24577 ∧ (distR i).2 ≤ 13)) = true := by decide
    exact of_decide_eq_true (List.all_eq_true.1 this i (List.mem_range.2 h))
  · have e : distR i = (0, 0) := by
      unfold distR
      rw [List.getD_eq_getElem?_getD, List.getElem?_eq_none (by show 30 ≤ i; omega)]; rfl
    rw [e]; decide
def fixL : List Int := List.replicate 144 8 ++ (List.replicate 112 9 ++ (List.replicate 24 7 ++ List.replicate 8 8))
def fixD : List Int := List.replicate 32 5
inductive IMode where
  | top
  | hdr (last : Bool) (n d g i : Nat) (l : List Int)
  | seq (last : Bool) (n d : Nat) (t l : List Int)
  | sym (last : Bool) (lt dt : List Int)
structure ISt where
  m : IMode
  k : Nat
  out : List UInt8
inductive IOut where
  | go (st : ISt)
  | fin (k : Nat) (out : List UInt8)
  | bad (e : Int)
def num (s : ByteArray) (k n : Nat) (f : Nat → Nat → IOut) : IOut := if k + n ≤ 8 * s.size then f (bv s k n) (k + n) else .bad 2
def sym1 (s : ByteArray) (l : List Int) (k : Nat) (f : Nat → Nat → IOut) : IOut := if nextE l s k = 0 then f (nextV l s k) (nextK l s k) else .bad (nextE l s k)
def aft (last : Bool) (k : Nat) (out : List UInt8) : IOut := if last then .fin k out else .go ⟨.top, k, out⟩
def cut (s : ByteArray) (q n : Nat) : List UInt8 := (s.extract q (q + n)).data.toList
def stStored (s : ByteArray) (lim : Nat) (last : Bool) (k : Nat) (out : List UInt8) : IOut :=
  num s (upK k) 16 fun n k3 => num s k3 16 fun m k4 =>
    if m = 65535 - n then (if k4 / 8 + n ≤ s.size then (if lim < out.length + n then .bad 11 else aft last (k4 + 8 * n) (out ++ cut s (k4 / 8) n)) else .bad 2) else .bad 3
def stHead (s : ByteArray) (last : Bool) (k : Nat) (out : List UInt8) : IOut :=
  num s k 5 fun a k3 => num s k3 5 fun b k4 => num s k4 4 fun c k5 =>
    if a + 257 ≤ 286 ∧ b + 1 ≤ 30 then .go ⟨.hdr last (a + 257) (b + 1) (c + 4) 0 (List.replicate 19 0), k5, out⟩ else .bad 3
def stTop (s : ByteArray) (lim : Nat) (k : Nat) (out : List UInt8) : IOut :=
  num s k 1 fun b k1 => num s k1 2 fun kind k2 =>
    if kind = 0 then stStored s lim (b == 1) k2 out
    else if kind = 1 then .go ⟨.sym (b == 1) fixL fixD, k2, out⟩
    else if kind = 2 then stHead s (b == 1) k2 out
    else .bad 3
def stHdr (s : ByteArray) (last : Bool) (n d g i : Nat) (l : List Int) (k : Nat) (out : List UInt8) : IOut :=
  if i < g then num s k 3 fun v k1 => .go ⟨.hdr last n d g (i + 1) (l.set (ordL.getD i 0) v), k1, out⟩
  else if checkE l = 0 then .go ⟨.seq last n d l [], k, out⟩ else .bad (checkE l)
def stPut (last : Bool) (n d : Nat) (t l : List Int) (v : Int) (times : Nat) (k : Nat) (out : List UInt8) : IOut :=
  if times ≤ n + d - l.length then .go ⟨.seq last n d t (l ++ List.replicate times v), k, out⟩ else .bad 3
def stSeq (s : ByteArray) (last : Bool) (n d : Nat) (t l : List Int) (k : Nat) (out : List UInt8) : IOut :=
  if l.length < n + d then
    sym1 s t k fun x k1 =>
      if x = 16 then (if l = [] then .bad 3 else num s k1 2 fun v k2 => stPut last n d t l (l.getD (l.length - 1) 0) (3 + v) k2 out)
      else if x = 17 then num s k1 3 fun v k2 => stPut last n d t l 0 (3 + v) k2 out
      else if x = 18 then num s k1 7 fun v k2 => stPut last n d t l 0 (11 + v) k2 out
      else stPut last n d t l x 1 k1 out
  else if l.getD 256 0 = 0 then .bad 3
  else if checkE (l.take n) = 0 then (if checkE (l.drop n) = 0 then .go ⟨.sym last (l.take n) (l.drop n), k, out⟩ else .bad (checkE (l.drop n)))
  else .bad (checkE (l.take n))
def stMatch (s : ByteArray) (lim : Nat) (last : Bool) (lt dt : List Int) (x k : Nat) (out : List UInt8) : IOut :=
  if 286 ≤ x then .bad 3
  else num s k (lenR (x - 257)).2 fun v k2 => sym1 s dt k2 fun y k3 =>
    if 30 ≤ y then .bad 3
    else num s k3 (distR y).2 fun u k4 =>
      if out.length < (distR y).1 + u then .bad 3
      else if lim < out.length + ((lenR (x - 257)).1 + v) then .bad 11
      else .go ⟨.sym last lt dt, k4, rep out ((distR y).1 + u) ((lenR (x - 257)).1 + v)⟩
def stSym (s : ByteArray) (lim : Nat) (last : Bool) (lt dt : List Int) (k : Nat) (out : List UInt8) : IOut :=
  sym1 s lt k fun x k1 =>
    if x = 256 then aft last k1 out
    else if x < 256 then (if lim < out.length + 1 then .bad 11 else .go ⟨.sym last lt dt, k1, out ++ [UInt8.ofNat x]⟩)
    else stMatch s lim last lt dt x k1 out
def step (s : ByteArray) (lim : Nat) : ISt → IOut
  | ⟨.top, k, out⟩ => stTop s lim k out
  | ⟨.hdr last n d g i l, k, out⟩ => stHdr s last n d g i l k out
  | ⟨.seq last n d t l, k, out⟩ => stSeq s last n d t l k out
  | ⟨.sym last lt dt, k, out⟩ => stSym s lim last lt dt k out
theorem step_top (s : ByteArray) (lim k : Nat) (out : List UInt8) : step s lim ⟨.top, k, out⟩ = stTop s lim k out := rfl
theorem step_hdr (s : ByteArray) (lim : Nat) (last : Bool) (n d g i : Nat) (l : List Int) (k : Nat) (out : List UInt8) : step s lim ⟨.hdr last n d g i l, k, out⟩ = stHdr s last n d g i l k out := rfl
theorem step_seq (s : ByteArray) (lim : Nat) (last : Bool) (n d : Nat) (t l : List Int) (k : Nat) (out : List UInt8) : step s lim ⟨.seq last n d t l, k, out⟩ = stSeq s last n d t l k out := rfl
theorem step_sym (s : ByteArray) (lim : Nat) (last : Bool) (lt dt : List Int) (k : Nat) (out : List UInt8) : step s lim ⟨.sym last lt dt, k, out⟩ = stSym s lim last lt dt k out := rfl
def stp (s : ByteArray) (lim : Nat) : IOut → IOut
  | .go st => step s lim st
  | x => x
def itr (s : ByteArray) (lim : Nat) : Nat → IOut → IOut
  | 0, x => x
  | n + 1, x => itr s lim n (stp s lim x)
def Leads (s : ByteArray) (lim : Nat) (x y : IOut) : Prop := ∃ n, itr s lim n x = y
def IOut.ended : IOut → Bool
  | .go _ => false
  | _ => true
section
variable {s : ByteArray} {lim : Nat}
theorem itr_add (n m : Nat) (x : IOut) : itr s lim (n + m) x = itr s lim m (itr s lim n x) := by
  induction n generalizing x with
  | zero => rw [Nat.zero_add]; rfl
  | succ n ih => rw [show n + 1 + m = (n + m) + 1 by omega, itr, itr, ih]
theorem Leads.refl (x : IOut) : Leads s lim x x := ⟨0, rfl⟩
theorem Leads.trans {x y z : IOut} (h : Leads s lim x y) (k : Leads s lim y z) : Leads s lim x z := by
  obtain ⟨n, rfl⟩ := h
  obtain ⟨m, rfl⟩ := k
  exact ⟨n + m, itr_add n m x⟩
theorem Leads.one (st : ISt) : Leads s lim (.go st) (step s lim st) := ⟨1, rfl⟩
theorem Leads.then {x : IOut} {st : ISt} {y : IOut} (h : Leads s lim x (.go st)) (e : step s lim st = y) : Leads s lim x y := h.trans (e ▸ Leads.one st)
theorem itr_ended {x : IOut} (h : x.ended = true) (n : Nat) : itr s lim n x = x := by
  induction n with
  | zero => rfl
  | succ n ih =>
    rw [itr]
    have : stp s lim x = x := by cases x <;> first | rfl | (cases h)
    rw [this]; exact ih
theorem Leads.unique {x y z : IOut} (h : Leads s lim x y) (k : Leads s lim x z) (hy : y.ended = true) (hz : z.ended = true) : y = z := by
  obtain ⟨n, rfl⟩ := h
  obtain ⟨m, rfl⟩ := k
  rcases Nat.le_total n m with hnm | hnm
  · obtain ⟨j, rfl⟩ : ∃ j, m = n + j := ⟨m - n, by omega⟩
    rw [itr_add, itr_ended hy]
  · obtain ⟨j, rfl⟩ : ∃ j, n = m + j := ⟨n - m, by omega⟩
    rw [itr_add, itr_ended hz]
theorem Leads.of_itr {x y : IOut} (n : Nat) (h : itr s lim n x = y) : Leads s lim x y := ⟨n, h⟩
theorem num_ok {k n : Nat} {f : Nat → Nat → IOut} (h : k + n ≤ 8 * s.size) : num s k n f = f (bv s k n) (k + n) := if_pos h
theorem num_bad {k n : Nat} {f : Nat → Nat → IOut} (h : ¬ k + n ≤ 8 * s.size) : num s k n f = .bad 2 := if_neg h
theorem sym1_ok {l : List Int} {k : Nat} {f : Nat → Nat → IOut} (h : nextE l s k = 0) : sym1 s l k f = f (nextV l s k) (nextK l s k) := if_pos h
theorem sym1_bad {l : List Int} {k : Nat} {f : Nat → Nat → IOut} (h : ¬ nextE l s k = 0) : sym1 s l k f = .bad (nextE l s k) := if_neg h
end
theorem next_more {l : List Int} {s : ByteArray} {k : Nat} (h : nextE l s k = 0) (hk : k ≤ 8 * s.size) : k + 1 ≤ nextK l s k ∧ nextK l s k ≤ 8 * s.size := by
  have h8 := nextK_le l s k hk
  refine ⟨?_, h8⟩
  have hE := h
  unfold nextK
  rw [if_pos h]
  unfold nextE nextR at hE
  unfold nextR
  rw [dGo, lfK_top] at hE ⊢
  simp only at hE ⊢
  split at hE
  · split at hE
    · simp at hE
    · rename_i h1 h2
      rw [if_pos h1, if_neg h2]
      exact (dGo_le l s 15 _ (k + 1) (by omega)).1
  · simp at hE
theorem nextV_lt {l : List Int} {s : ByteArray} {k : Nat} (h : nextE l s k = 0) : nextV l s k < l.length := ((dGo_sym l s 16 (0, 0) k).2.1 h).1
theorem fixL_len : fixL.length = 288 := by decide +kernel
theorem fixD_len : fixD.length = 32 := by decide +kernel
theorem fixL_get (i : Nat) (h : i < 288) : fixL.getD i 0 = if i < 144 then 8 else if i < 256 then 9 else if i < 280 then 7 else 8 := by
  have : (List.range 288).all (fun i => decide (fixL.getD i 0 = if i < 144 then 8 else if i < 256 then 9 else if i < 280 then 7 else 8)) = true := by decide +kernel
  exact of_decide_eq_true (List.all_eq_true.1 this i (List.mem_range.2 h))
theorem fixL_code : checkE fixL = 0 := by decide +kernel
theorem fixD_code : checkE fixD = 0 := by decide +kernel
end Go.Proofs.YtkmbgkcpohchhaaGreatDoor
namespace Go.Proofs.YtkmbgkcpohchhaaGreatDoor
open Go.RowKit Go.Conc
set_option linter.unusedVariables false
section
variable {w : World} {B t size g n cap : Nat} {xs : List Value}
theorem ownp_row (h : w.ownsRow B t size (.slice (some ⟨g, 0, none⟩) n cap) n xs) : ∃ cur, w.heap[g]? = some (.cells cur t (0, 0)) ∧ B ≤ g ∧ n ≤ cap ∧ cap ≤ maxLen ∧ cur.size = cap * size ∧ cur.toList.take (n * size) = xs := by
  rcases h.2 with ⟨h0, _⟩ | ⟨g', cap', cur, h0, h1, h2, h3, h4, h5, h6⟩
  · cases h0
  · injection h0 with e1 e2 e3
    injection e1 with e1
    injection e1 with e1
    subst e1; subst e3
    exact ⟨cur, h2, h1, h3, h4, h5, h6⟩
theorem ownp_frozen (h : w.ownsRow B t size (.slice (some ⟨g, 0, none⟩) n cap) n xs) (i : Nat) : w.frozen? ⟨g, i, none⟩ = false := by
  obtain ⟨cur, hg, _⟩ := ownp_row h
  simp [World.frozen?, hg]
theorem ownp_cell (h : w.ownsRow B t size (.slice (some ⟨g, 0, none⟩) n cap) n xs) {j : Nat} {u : Value} (hj : xs[j]? = some u) : w.cell? ⟨g, j, none⟩ = some u := by
  have := h.cells (g := g) rfl j u hj
  rwa [addr_add] at this
theorem ownp_set (h : w.ownsRow B t size (.slice (some ⟨g, 0, none⟩) n cap) n xs) (j : Nat) (u : Value) : (w.setCell ⟨g, j, none⟩ u).ownsRow B t size (.slice (some ⟨g, 0, none⟩) n cap) n (xs.set j u) := by
  have hl := h.1
  obtain ⟨cur, hg, hge, h1, h2, h3, h4⟩ := ownp_row h
  refine ⟨by rw [List.length_set]; exact hl, .inr ⟨g, cap, cur.setIfInBounds j u, rfl, hge, ?_, h1, h2, by simpa using h3, ?_⟩⟩
  · simp [World.setCell, Array.getElem?_modify, hg]
  · rw [Array.toList_setIfInBounds, List.take_set, h4]
theorem ownp_cap (h : w.ownsRow B t size (.slice (some ⟨g, 0, none⟩) n cap) n xs) : n ≤ cap := by
  obtain ⟨cur, _, _, h1, _⟩ := ownp_row h
  exact h1
end
theorem own_far {w : World} {B : Nat} {e : TypeId} {size n : Nat} {v : Value} {xs : List Value} (h : w.ownsRow B e size v n xs) {p : Addr} (hp : v.ownBlock ≠ some p.block) (u : Value) : (w.setCell p u).ownsRow B e size v n xs :=
  own_keep h fun b hb => Below.heap_setCell w p u b (fun e => hp (e ▸ hb))
end Go.Proofs.YtkmbgkcpohchhaaGreatDoor
namespace Go.Proofs.YtkmbgkcpohchhaaGreatDoor
open Go.RowKit
set_option linter.unusedVariables false
def revB (c : Nat) : Nat → Nat
  | 0 => 0
  | j + 1 => 2 * revB c j + c / 2 ^ j % 2
theorem revB_lt (c : Nat) : ∀ j, revB c j < 2 ^ j
  | 0 => by simp [revB]
  | j + 1 => by
    have := revB_lt c j
    have h2 : c / 2 ^ j % 2 < 2 := Nat.mod_lt _ (by decide)
    rw [revB, Nat.pow_succ]; omega
theorem or_bit (y b : Nat) (hy : y < 2147483648) (hb : b < 2) : bits .or .u32 ((y : Int) * 2) (b : Int) = ((2 * y + b : Nat) : Int) := by
  have h := u32_or_nat (2 * y) b (by omega) (by omega)
  rw [← Nat.two_pow_add_eq_or_of_lt (i := 1) (b := b) hb y] at h
  rw [show ((y : Int) * 2) = ((2 * y : Nat) : Int) by omega]
  exact h
theorem and_bit (x : Nat) (hx : x < 4611686018427387904) : bits .and .i64 ((x : Nat) : Int) 1 = ((x % 2 : Nat) : Int) := by
  exact and_one x (by omega)
set_option maxHeartbeats 1000000 in
theorem reversed_any (c n : Nat) (hc : c < 32768) (hn : n ≤ 15) (w : World) :
    Calls Tryz.prog 92 #[.int .i64 c, .int .i64 n] w fun e w' => e = .returned (.int .u32 ((revB c n : Nat) : Int)) ∧ w = w' := by
  go_enter Tryz.func92, Tryz.ntmps92
  go_wp2
  go_loop [0, 5, 7] (fun vc v i => ∃ j : Nat, j ≤ n ∧ i = .int .i64 j ∧ v = .int .u32 ((revB c j : Nat) : Int) ∧ vc = .int .i64 ((c / 2 ^ j : Nat) : Int)) (fun _ _ i => n - (intOf i).toNat)
  case atStart => exact ⟨0, Nat.zero_le _, rfl, rfl, by rw [Nat.pow_zero, Nat.div_one]⟩
  case round =>
    obtain ⟨j, hj, rfl, rfl, rfl⟩ := hrel
    by_cases hlt : j < n
    · have hlti : (j : Int) < n := by omega
      have hy := revB_lt c j
      have hp : 2 ^ j ≤ 2 ^ 15 := Nat.pow_le_pow_right (by decide) (by omega)
      have hx : c / 2 ^ j ≤ c := Nat.div_le_self _ _
      have HN := hid (show c / 2 ^ (j + 1) = c / 2 ^ j / 2 by rw [Nat.pow_succ, Nat.div_div_eq_div_mul])
      have HR := hid (show revB c (j + 1) = 2 * revB c j + c / 2 ^ j % 2 from rfl)
      have hy2 : revB c j < 32768 := by omega
      clear hy hp
      generalize revB c j = y at *
      generalize c / 2 ^ j = x at *
      obtain ⟨b, hb⟩ : ∃ b, x % 2 = b := ⟨_, rfl⟩
      have hb2 : b < 2 := by omega
      have hbe : bits .and .i64 (x : Int) 1 = (b : Int) := by rw [and_bit x (by omega), hb]
      have hor := or_bit y b (by omega) hb2
      rw [hb] at HR
      clear hb
      go_wp2
      go_round
      case rel => exact ⟨j + 1, by omega, by go_num, by rw [HR.out]; go_num, by rw [HN.out]; go_num⟩
      case measure => simp [intOf]; omega
    · obtain rfl : j = n := by omega
      go_wp2
      go_ret
      exact ⟨rfl, rfl⟩
def fxL (s : Nat) : Nat := if s < 144 then 8 else if s < 256 then 9 else if s < 280 then 7 else 8
theorem fixedLength_any (s : Nat) (hs : s < 288) (w : World) :
    Calls Tryz.prog 82 #[.int .i64 s] w fun e w' => e = .returned (.int .i64 ((fxL s : Nat) : Int)) ∧ w = w' := by
  obtain ⟨x, hx⟩ : ∃ x, ((s : Nat) : Int) = x := ⟨_, rfl⟩
  have h0 : 0 ≤ x := by omega
  have h1 : x < 288 := by omega
  have HF := hid (show ((fxL s : Nat) : Int) = if x < 144 then 8 else if x < 256 then 9 else if x < 280 then 7 else 8 by
    unfold fxL
    rw [← hx]
    repeat' split
    all_goals first | rfl | omega)
  rw [hx]
  generalize ((fxL s : Nat) : Int) = fl at *
  clear hx hs
  go_enter Tryz.func82, Tryz.ntmps82
  go_wp2
  all_goals
    go_ret
    refine ⟨?_, rfl⟩
    have h := HF.out
    subst h
    repeat' split
    all_goals first | rfl | omega
structure ExG (g n e : Nat) : Prop where
  lt : n / 2 ^ e < 2 * g
  ge : ∀ i, i < e → 2 * g ≤ n / 2 ^ i
theorem ExG.unique {g n a b : Nat} (h : ExG g n a) (k : ExG g n b) : a = b := by
  rcases Nat.lt_trichotomy a b with e | e | e
  · have := k.ge a e; have := h.lt; omega
  · exact e
  · have := h.ge b e; have := k.lt; omega
set_option maxRecDepth 100000 in
set_option maxHeartbeats 2000000 in
theorem grouped_any (g n : Nat) (hg : g = 2 ∨ g = 4) (hn : n < 65536) (w : World) :
    Calls Tryz.prog 90 #[.int .i64 n, .int .i64 g] w fun e' w' => ∃ e, ExG g n e ∧ e ≤ 16 ∧ e' = .returned (.agg #[.int .i64 ((e * g + n / 2 ^ e : Nat) : Int), .int .i64 e, .int .u32 ((n % 2 ^ e : Nat) : Int)]) ∧ Bw w w' := by
  have hg4 : g ≤ 4 := by omega
  have hg2 : 2 ≤ g := by omega
  clear hg
  go_enter Tryz.func90, Tryz.ntmps90
  go_wp2
  go_loopw [5] (fun ve wr => ∃ e : Nat, ve = .int .i64 e ∧ e ≤ 16 ∧ (∀ i, i < e → 2 * g ≤ n / 2 ^ i) ∧ wr = w.alloc (.cells #[.int .i64 0, .int .i64 0, .int .u32 0] 116)) (fun ve _ => 17 - (intOf ve).toNat)
  case atStart => exact ⟨0, rfl, by omega, fun i h => by omega, rfl⟩
  case round =>
    obtain ⟨e, rfl, he, hge, rfl⟩ := hrel
    have HGE := hid hge
    have h16 : n / 2 ^ 16 = 0 := Nat.div_eq_of_lt hn
    have hx : n / 2 ^ e ≤ n := Nat.div_le_self _ _
    have HD := hid (Nat.div_add_mod n (2 ^ e))
    have hml := Nat.mod_lt n (Nat.two_pow_pos e)
    have hp16 : 2 ^ e ≤ 2 ^ 16 := Nat.pow_le_pow_right (by decide) he
    obtain ⟨p, hp⟩ : ∃ p, 2 ^ e = p := ⟨_, rfl⟩
    obtain ⟨m, hm⟩ : ∃ m, n / 2 ^ e = m := ⟨_, rfl⟩
    have hmi : ((n : Nat) : Int) / 2 ^ e = (m : Int) := by
      rw [← hm]; simp
    have HM := hid hm
    have HP := hid hp
    rw [hm] at hx
    rw [hp] at hml hp16
    clear hge
    by_cases hlt : 2 * g ≤ m
    · have hlti : 2 * (g : Int) ≤ m := by omega
      have he2 : e < 16 := by
        rcases Nat.lt_or_ge e 16 with h | h
        · exact h
        · obtain rfl : e = 16 := by omega
          rw [h16] at hm; omega
      clear hm hp
      go_wp2
      go_roundw
      case rel => exact ⟨e + 1, by go_num, by omega, fun i hi => by
          rcases (show i < e ∨ i = e by omega) with h | h
          · exact HGE.out i h
          · subst h; rw [HM.out]; exact hlt, trivial⟩
      case measure => simp [intOf]; omega
    · have hlti : ¬ 2 * (g : Int) ≤ m := by omega
      obtain ⟨q, hq⟩ : ∃ q, e * g = q := ⟨_, rfl⟩
      have hqi : ((e : Nat) : Int) * ((g : Nat) : Int) = (q : Int) := by rw [← hq, Int.natCast_mul]
      have hqb : q ≤ 16 * 4 := by rw [← hq]; exact Nat.mul_le_mul he hg4
      obtain ⟨s, hs⟩ : ∃ s, p * m = s := ⟨_, rfl⟩
      have hsi : ((m : Nat) : Int) * 2 ^ e = (s : Int) := by
        rw [← hs, ← hp, Int.natCast_mul, Int.mul_comm]; simp
      obtain ⟨r, hr⟩ : ∃ r, n % 2 ^ e = r := ⟨_, rfl⟩
      have hsr : s + r = n := by
        have := HD.out
        rw [hm, hr, hp, hs] at this
        exact this
      have hmodi : ((n : Nat) : Int) % 2 ^ e = (r : Int) := by rw [← hr]; simp
      have HMO := hid hmodi
      clear hmodi
      have hri : ((n : Nat) : Int) - ((s : Nat) : Int) = (r : Int) := by omega
      have hrb : r < 65536 := by omega
      clear hm hp hq hs hr
      go_wp2
      go_returns
      refine ⟨e, ⟨by rw [HM.out]; omega, HGE.out⟩, he, ?_, (Bw.refl w).alloc _⟩
      simp only [hqi, hmi, HMO.out]
set_option maxRecDepth 100000 in
set_option maxHeartbeats 2000000 in
theorem distance_any (lit : Int) (ln : Int) (d : Nat) (h1 : 1 ≤ d) (h2 : d ≤ 32768) (w : World) :
    Calls Tryz.prog 57 #[.agg #[.int .u8 lit, .int .i64 ln, .int .i64 d]] w fun e' w' => ∃ e, ExG 2 (d - 1) e ∧ e ≤ 16 ∧ e' = .returned (.agg #[.int .i64 ((e * 2 + (d - 1) / 2 ^ e : Nat) : Int), .int .i64 e, .int .u32 (((d - 1) % 2 ^ e : Nat) : Int)]) ∧ Bw w w' := by
  have HG := hid (fun w => grouped_any 2 (d - 1) (.inl rfl) (by omega) w)
  rw [show ((d - 1 : Nat) : Int) = (d : Int) - 1 by omega] at HG
  go_enter Tryz.func57, Tryz.ntmps57
  go_wp2_with fail
  refine (HG.out _).mono ?_
  rintro e' w1 ⟨e, he, he16, rfl, hb⟩
  have HE := hid he
  have HH := hid (hb.has (Has.new (w.alloc (.cells #[.int .u8 lit, .int .i64 ln, .int .i64 d] 29)) 116 #[.int .i64 0, .int .i64 0, .int .u32 0]))
  have HB := hid (show Bw w w1 from (((Bw.refl w).alloc _).alloc _).trans hb)
  have hz1 := hb.size
  rw [World.size_alloc] at HH
  have c0 := HH.out.cell 0
  have c1 := HH.out.cell 1
  have c2 := HH.out.cell 2
  have f0 := HH.out.frozen 0
  have f1 := HH.out.frozen 1
  have f2 := HH.out.frozen 2
  clear hb
  obtain ⟨ix, hix⟩ : ∃ ix, ((e * 2 + (d - 1) / 2 ^ e : Nat) : Int) = ix := ⟨_, rfl⟩
  obtain ⟨mo, hmo⟩ : ∃ mo, (((d - 1) % 2 ^ e : Nat) : Int) = mo := ⟨_, rfl⟩
  rw [hix, hmo]
  have HIX := hid hix
  have HMO := hid hmo
  clear hix hmo
  have HP := hid (((HH.out.put 0 (.int .i64 ix)).put 1 (.int .i64 e)).put 2 (.int .u32 mo))
  have HBW := hid (show Bw w _ from Below.setCell (Below.setCell (Below.setCell HB.out (p := ⟨w.heap.size + 1, 0, none⟩) (Nat.le_succ _) (.int .i64 ix)) (p := ⟨w.heap.size + 1, 1, none⟩) (Nat.le_succ _) (.int .i64 e)) (p := ⟨w.heap.size + 1, 2, none⟩) (Nat.le_succ _) (.int .u32 mo))
  go_wp2
  generalize ((w1.setCell ⟨w.heap.size + 1, 0, none⟩ (.int .i64 ix)).setCell ⟨w.heap.size + 1, 1, none⟩ (.int .i64 e)).setCell ⟨w.heap.size + 1, 2, none⟩ (.int .u32 mo) = w2 at *
  clear c0 c1 c2 f0 f1 f2 HH
  have e0 : w2.cell? ⟨w.heap.size + 1, 0, none⟩ = some (.int .i64 ix) := HP.out.cell 0
  have e1 : w2.cell? ⟨w.heap.size + 1, 1, none⟩ = some (.int .i64 e) := HP.out.cell 1
  have e2 : w2.cell? ⟨w.heap.size + 1, 2, none⟩ = some (.int .u32 mo) := HP.out.cell 2
  (try simp only [Exit.inBlock, Exit.then])
  refine bodyPost_ret (by simp [results, Tryz.results57, go_sem, e0, e1, e2]; try rfl) rfl ?_
  exact ⟨e, HE.out, he16, by rw [HIX.out, HMO.out], HBW.out⟩
set_option maxRecDepth 100000 in
set_option maxHeartbeats 2000000 in
theorem literal_lit (lit : Nat) (hl : lit < 256) (ln : Int) (w : World) :
    Calls Tryz.prog 56 #[.agg #[.int .u8 lit, .int .i64 ln, .int .i64 0]] w fun e' w' => e' = .returned (.agg #[.int .i64 lit, .int .i64 0, .int .u32 0]) ∧ Bw w w' := by
  go_enter Tryz.func56, Tryz.ntmps56
  go_wp2
  go_returns
  exact ⟨rfl, by unfold Bw; go_grown⟩
set_option maxRecDepth 100000 in
set_option maxHeartbeats 2000000 in
theorem literal_258 (lit : Int) (d : Nat) (h1 : 1 ≤ d) (w : World) :
    Calls Tryz.prog 56 #[.agg #[.int .u8 lit, .int .i64 258, .int .i64 d]] w fun e' w' => e' = .returned (.agg #[.int .i64 285, .int .i64 0, .int .u32 0]) ∧ Bw w w' := by
  have hd : ((d : Nat) : Int) ≠ 0 := by omega
  have hd2 : ¬ ((d : Nat) : Int) = 0 := hd
  go_enter Tryz.func56, Tryz.ntmps56
  go_wp2
  go_returns
  exact ⟨rfl, by unfold Bw; go_grown⟩
set_option maxRecDepth 100000 in
set_option maxHeartbeats 2000000 in
theorem literal_len (lit : Int) (ln d : Nat) (h1 : 1 ≤ d) (h3 : 3 ≤ ln) (h258 : ln < 258) (w : World) :
    Calls Tryz.prog 56 #[.agg #[.int .u8 lit, .int .i64 ln, .int .i64 d]] w fun e' w' => ∃ e, ExG 4 (ln - 3) e ∧ e ≤ 16 ∧ e' = .returned (.agg #[.int .i64 ((e * 4 + (ln - 3) / 2 ^ e + 257 : Nat) : Int), .int .i64 e, .int .u32 (((ln - 3) % 2 ^ e : Nat) : Int)]) ∧ Bw w w' := by
  have HG := hid (fun w => grouped_any 4 (ln - 3) (.inr rfl) (by omega) w)
  rw [show ((ln - 3 : Nat) : Int) = (ln : Int) - 3 by omega] at HG
  have hd : ((d : Nat) : Int) ≠ 0 := by omega
  have hd2 : ¬ ((d : Nat) : Int) = 0 := hd
  have hn2 : ¬ ((ln : Nat) : Int) = 258 := by omega
  go_enter Tryz.func56, Tryz.ntmps56
  go_wp2_with fail
  refine (HG.out _).mono ?_
  rintro e' w1 ⟨e, he, he16, rfl, hb⟩
  have HE := hid he
  have HH := hid (hb.has (Has.new (w.alloc (.cells #[.int .u8 lit, .int .i64 ln, .int .i64 d] 29)) 116 #[.int .i64 0, .int .i64 0, .int .u32 0]))
  have HB := hid (show Bw w w1 from (((Bw.refl w).alloc _).alloc _).trans hb)
  have hz1 := hb.size
  rw [World.size_alloc] at HH
  have c0 := HH.out.cell 0
  have c1 := HH.out.cell 1
  have c2 := HH.out.cell 2
  have f0 := HH.out.frozen 0
  have f1 := HH.out.frozen 1
  have f2 := HH.out.frozen 2
  clear hb
  have hix0 : e * 4 + (ln - 3) / 2 ^ e ≤ 16 * 4 + 255 := by
    have : (ln - 3) / 2 ^ e ≤ ln - 3 := Nat.div_le_self _ _
    omega
  obtain ⟨ix, hix⟩ : ∃ ix, e * 4 + (ln - 3) / 2 ^ e = ix := ⟨_, rfl⟩
  obtain ⟨mo, hmo⟩ : ∃ mo, (((ln - 3) % 2 ^ e : Nat) : Int) = mo := ⟨_, rfl⟩
  rw [hix] at hix0
  rw [hix, hmo]
  have HIX := hid hix
  have HMO := hid hmo
  clear hix hmo
  have HA := hid (HH.out.alloc (.cells #[.int .i64 ((ix : Int) + 257), .int .i64 e, .int .u32 mo] 116))
  have a0 := HA.out.cell 0
  have a1 := HA.out.cell 1
  have a2 := HA.out.cell 2
  have b0 := HA.out.frozen 0
  have b1 := HA.out.frozen 1
  have b2 := HA.out.frozen 2
  have HP := hid (((HA.out.put 0 (.int .i64 ((ix : Int) + 257))).put 1 (.int .i64 e)).put 2 (.int .u32 mo))
  have HBA := hid (show Bw w _ from HB.out.alloc (.cells #[.int .i64 ((ix : Int) + 257), .int .i64 e, .int .u32 mo] 116))
  have HBW := hid (show Bw w _ from Below.setCell (Below.setCell (Below.setCell HBA.out (p := ⟨w.heap.size + 1, 0, none⟩) (Nat.le_succ _) (.int .i64 ((ix : Int) + 257))) (p := ⟨w.heap.size + 1, 1, none⟩) (Nat.le_succ _) (.int .i64 e)) (p := ⟨w.heap.size + 1, 2, none⟩) (Nat.le_succ _) (.int .u32 mo))
  go_wp2
  generalize (((w1.alloc (.cells #[.int .i64 ((ix : Int) + 257), .int .i64 e, .int .u32 mo] 116)).setCell ⟨w.heap.size + 1, 0, none⟩ (.int .i64 ((ix : Int) + 257))).setCell ⟨w.heap.size + 1, 1, none⟩ (.int .i64 e)).setCell ⟨w.heap.size + 1, 2, none⟩ (.int .u32 mo) = w2 at *
  clear c0 c1 c2 f0 f1 f2 HH a0 a1 a2 b0 b1 b2 HA
  have e0 : w2.cell? ⟨w.heap.size + 1, 0, none⟩ = some (.int .i64 ((ix : Int) + 257)) := HP.out.cell 0
  have e1 : w2.cell? ⟨w.heap.size + 1, 1, none⟩ = some (.int .i64 e) := HP.out.cell 1
  have e2 : w2.cell? ⟨w.heap.size + 1, 2, none⟩ = some (.int .u32 mo) := HP.out.cell 2
  (try simp only [Exit.inBlock, Exit.then])
  refine bodyPost_ret (by simp [results, Tryz.results56, go_sem, e0, e1, e2]; try rfl) rfl ?_
  exact ⟨e, HE.out, he16, by rw [HIX.out, HMO.out]; simp, HBW.out⟩
end Go.Proofs.YtkmbgkcpohchhaaGreatDoor
namespace Go.Proofs.YtkmbgkcpohchhaaGreatDoor
open Go.RowKit
set_option linter.unusedVariables false
theorem bitLen_of (x k : Nat) (h1 : 2 ^ k ≤ x) (h2 : x < 2 ^ (k + 1)) (hk : k < 63) : Lib.bitLen x = k + 1 := by
  have hx : x < 2 ^ 64 := Nat.lt_of_lt_of_le h2 (Nat.pow_le_pow_right (by decide) (by omega))
  have e : x / 2 ^ k = 1 := by
    have := Nat.two_pow_pos k
    apply Nat.div_eq_of_lt_le
    · omega
    · rw [Nat.pow_succ] at h2; omega
  rw [Lib.bitLen_shift k x h1 hx, e]
  rfl
def distX (n : Nat) : Nat := if Lib.bitLen (n - 1) - 2 ≤ 0 then 0 else Lib.bitLen (n - 1) - 2
def lenC (n : Nat) : Nat := (if 115 ≤ n then 8 else 7) + if n < 258 then Lib.bitLen (n - 3) - 3 else 0
def mlenF (s : Nat) : Nat := if s = 285 then 258 else if s - 257 < 8 then 3 + (s - 257) else 3 + (4 + (s - 257) % 4) * 2 ^ ((s - 257) / 4 - 1)
def lenX (s : Nat) : Nat := if s = 285 then 0 else if s - 257 < 8 then 0 else (s - 257) / 4 - 1
def dstF (s : Nat) : Nat := if s < 4 then 1 + s else 1 + (2 + s % 2) * 2 ^ (s / 2 - 1)
def dstX (s : Nat) : Nat := if s < 4 then 0 else s / 2 - 1
def symGo (f : Nat → Nat) (s0 n : Nat) : Nat → Nat
  | 0 => s0
  | k + 1 => if f (s0 + k) ≤ n then s0 + k else symGo f s0 n k
def mlenS (n : Nat) : Nat := if n = 258 then 285 else symGo mlenF 257 n 28
def dstS (n : Nat) : Nat := symGo dstF 0 n 30
def litF (s : Nat) : Nat := if s < 144 ∨ 279 < s then 8 else if s < 256 then 9 else 7
theorem dstF_le : ∀ i : Fin 30, ∀ j : Fin 30, i.val ≤ j.val → dstF i.val ≤ dstF j.val := by decide +kernel
theorem symGo_is (f : Nat → Nat) (s0 n : Nat) : ∀ (k s : Nat), s < k → f (s0 + s) ≤ n → (∀ j, s < j → j < k → n < f (s0 + j)) → symGo f s0 n k = s0 + s
  | 0, s, h, _, _ => by omega
  | k + 1, s, h, h1, h2 => by
    rw [symGo]
    by_cases e : s = k
    · subst e; rw [if_pos h1]
    · have := h2 k (by omega) (by omega)
      rw [if_neg (by omega)]
      exact symGo_is f s0 n k s (by omega) h1 fun j a b => h2 j a (by omega)
theorem dst_hi : ∀ i : Fin 29, dstF (i.val + 1) ≤ 2 ^ (dstX i.val + 2) + 1 ∧ (4 ≤ i.val → 2 ^ (dstX i.val + 1) + 1 ≤ dstF i.val) ∧ dstX i.val ≤ 13 := by decide +kernel
theorem dstS_lt (n : Nat) (h : 1 ≤ n) (h2 : n ≤ 32768) : ∃ s, s < 30 ∧ dstS n = s ∧ dstF s ≤ n ∧ (s < 29 → n < dstF (s + 1)) := by
  have key : ∀ k, 1 ≤ k → k ≤ 30 → ∃ s, s < k ∧ dstF s ≤ n ∧ (s + 1 < k → n < dstF (s + 1)) := by
    intro k
    induction k with
    | zero => intro h0; omega
    | succ k ih =>
      intro _ hk
      by_cases e : dstF k ≤ n
      · exact ⟨k, by omega, e, fun h => by omega⟩
      · by_cases k0 : k = 0
        · subst k0; exact absurd h e
        · obtain ⟨s, a, b, c⟩ := ih (by omega) (by omega)
          refine ⟨s, by omega, b, fun hs => ?_⟩
          by_cases hsk : s + 1 < k
          · exact c hsk
          · obtain rfl : s + 1 = k := by omega
            omega
  obtain ⟨s, a, b, c⟩ := key 30 (by omega) (by omega)
  refine ⟨s, a, ?_, b, fun hs => c (by omega)⟩
  have := symGo_is dstF 0 n 30 s a (by rwa [Nat.zero_add]) fun j hj hk => by
    have h1 := c (by omega)
    have h3 := dstF_le ⟨s + 1, by omega⟩ ⟨j, hk⟩ hj
    rw [Nat.zero_add]
    exact Nat.lt_of_lt_of_le h1 h3
  unfold dstS
  rw [this, Nat.zero_add]
theorem dst_ok (n : Nat) (h : 1 ≤ n) (h2 : n ≤ 32768) : distX n = dstX (dstS n) ∧ dstS n < 30 := by
  obtain ⟨s, hs, e, h3, h4⟩ := dstS_lt n h h2
  rw [e]
  refine ⟨?_, hs⟩
  by_cases h5 : s < 4
  · have : n < 5 := by
      have h6 := h4 (by omega)
      have h7 := dstF_le ⟨s + 1, by omega⟩ ⟨4, by decide⟩ (by simp; omega)
      have : dstF 4 = 5 := by decide
      simp at h7; omega
    have hx : dstX s = 0 := by unfold dstX; rw [if_pos h5]
    rw [hx]
    have : n = 1 ∨ n = 2 ∨ n = 3 ∨ n = 4 := by omega
    rcases this with rfl | rfl | rfl | rfl <;> decide
  · have lo : 2 ^ (dstX s + 1) + 1 ≤ dstF s ∧ dstX s ≤ 13 ∧ n ≤ 2 ^ (dstX s + 2) := by
      by_cases h6 : s = 29
      · subst h6
        exact ⟨by decide, by decide, by rw [show 2 ^ (dstX 29 + 2) = 32768 from by decide]; exact h2⟩
      · have a := dst_hi ⟨s, by omega⟩
        simp only at a
        have := h4 (by omega)
        exact ⟨a.2.1 (by omega), a.2.2, by omega⟩
    have hb := bitLen_of (n - 1) (dstX s + 1) (by omega) (by have e2 : dstX s + 1 + 1 = dstX s + 2 := rfl; rw [e2]; omega) (by omega)
    unfold distX
    rw [hb]
    split <;> omega
theorem distX_le (n : Nat) (h : 1 ≤ n) (h2 : n ≤ 32768) : distX n ≤ 13 := by
  have := dst_ok n h h2
  rw [this.1]
  have h3 : ∀ s : Fin 30, dstX s.val ≤ 13 := by decide +kernel
  exact h3 ⟨_, this.2⟩
theorem lenC_le : ∀ k : Fin 256, lenC (k.val + 3) ≤ 13 := by decide +kernel
def tokC (t : TokR) : Int := if isB t then litC t.lit else ((lenC t.len.toNat + 5 + distX t.dist.toNat : Nat) : Int)
def tokOk (t : TokR) : Bool := isB t || isM t
def costOk (l : List TokR) : Bool := l.all tokOk
def costGo (l : List TokR) : Int := l.foldl (fun n t => n + tokC t) 7
theorem costGo_snoc (l : List TokR) (t : TokR) : costGo (l ++ [t]) = costGo l + tokC t := by unfold costGo; rw [List.foldl_append]; rfl
theorem tokC_le {t : TokR} (h : tokOk t = true) : 0 ≤ tokC t ∧ tokC t ≤ 31 := by
  unfold tokC
  cases hb : isB t with
  | true => simp only [if_true]; unfold litC; split <;> omega
  | false =>
    have hm : isM t = true := by simpa [tokOk, hb] using h
    obtain ⟨a, b, c, d, e⟩ := isM_iff.1 hm
    have h1 := distX_le t.dist.toNat (by omega) (by omega)
    have h2 := lenC_le ⟨t.len.toNat - 3, by omega⟩
    simp only at h2
    rw [show t.len.toNat - 3 + 3 = t.len.toNat by omega] at h2
    simp only [Bool.false_eq_true, if_false]
    omega
theorem costGo_le (l : List TokR) (h : costOk l = true) : 7 ≤ costGo l ∧ costGo l ≤ 7 + 31 * l.length := by
  have key : ∀ (l : List TokR) (a : Int), costOk l = true → a ≤ l.foldl (fun n t => n + tokC t) a ∧ l.foldl (fun n t => n + tokC t) a ≤ a + 31 * l.length := by
    intro l
    induction l with
    | nil => intro a _; simp
    | cons t l ih =>
      intro a h
      have h1 : tokOk t = true ∧ costOk l = true := by simpa [costOk] using h
      have h2 := tokC_le h1.1
      have := ih (a + tokC t) h1.2
      rw [List.foldl_cons, List.length_cons]
      omega
  exact key l 7 h
def costE (l : List TokR) : Int := if costOk l then 0 else 1
def costV (l : List TokR) : Int := if costOk l then costGo l else 0
theorem costOk_next {l : List TokR} {k : Nat} (hk : k < l.length) (h : costOk (l.take k) = true) : costOk (l.take (k + 1)) = tokOk l[k] := by
  rw [List.take_succ_eq_append_getElem hk]
  unfold costOk at *
  rw [List.all_append, h]
  simp
theorem costOk_bad {l : List TokR} {k : Nat} (hk : k < l.length) (h : tokOk l[k] = false) : costOk l = false := by
  unfold costOk
  rw [List.all_eq_false]
  exact ⟨l[k], List.getElem_mem hk, by simp [h]⟩
theorem costGo_next {l : List TokR} {k : Nat} (hk : k < l.length) : costGo (l.take (k + 1)) = costGo (l.take k) + tokC l[k] := by
  rw [List.take_succ_eq_append_getElem hk, costGo_snoc]
end Go.Proofs.YtkmbgkcpohchhaaGreatDoor
namespace Go.Proofs.YtkmbgkcpohchhaaGreatDoor
open Go.RowKit
set_option linter.unusedVariables false
structure SymT where
  idx : Nat
  ext : Nat
  more : Nat
def symV (s : SymT) : Value := .agg #[.int .i64 s.idx, .int .i64 s.ext, .int .u32 s.more]
def litY (t : TokR) : SymT := if isB t then ⟨t.lit, 0, 0⟩ else ⟨mlenS t.len.toNat, lenX (mlenS t.len.toNat), t.len.toNat - mlenF (mlenS t.len.toNat)⟩
def dstY (t : TokR) : SymT := ⟨dstS t.dist.toNat, dstX (dstS t.dist.toNat), t.dist.toNat - dstF (dstS t.dist.toNat)⟩
def exGo (n : Nat) : Nat → Nat → Nat
  | 0, e => e
  | f + 1, e => if n / 2 ^ e < 8 then e else exGo n f (e + 1)
theorem exGo_is {n e : Nat} (h : ExG 4 n e) : ∀ f i, i ≤ e → e ≤ i + f → exGo n f i = e
  | 0, i, h1, h2 => by show i = e; omega
  | f + 1, i, h1, h2 => by
    rw [exGo]
    by_cases c : n / 2 ^ i < 8
    · rw [if_pos c]
      rcases Nat.lt_or_ge i e with h3 | h3
      · have := h.ge i h3
        omega
      · omega
    · rw [if_neg c]
      have : i ≠ e := fun q => c (by have := h.lt; rw [q]; omega)
      exact exGo_is h f (i + 1) (by omega) (by omega)
set_option maxRecDepth 100000 in
theorem len_all : ∀ k : Fin 255, exGo k.val 8 0 * 4 + k.val / 2 ^ exGo k.val 8 0 + 257 = mlenS (k.val + 3) ∧ exGo k.val 8 0 = lenX (mlenS (k.val + 3)) ∧ k.val % 2 ^ exGo k.val 8 0 = k.val + 3 - mlenF (mlenS (k.val + 3)) ∧ exGo k.val 8 0 ≤ 5 ∧ mlenS (k.val + 3) < 286 := by decide
theorem exG_small {n e : Nat} (h : ExG 4 n e) (hn : n < 255) : e ≤ 8 := by
  rcases Nat.lt_or_ge 8 e with h1 | h1
  · have := h.ge 8 h1
    have : n / 2 ^ 8 = 0 := Nat.div_eq_of_lt (by omega)
    omega
  · exact h1
theorem len_sym {n e : Nat} (h : ExG 4 n e) (hn : n < 255) : e * 4 + n / 2 ^ e + 257 = mlenS (n + 3) ∧ e = lenX (mlenS (n + 3)) ∧ n % 2 ^ e = n + 3 - mlenF (mlenS (n + 3)) ∧ e ≤ 5 ∧ mlenS (n + 3) < 286 := by
  have := len_all ⟨n, hn⟩
  rwa [exGo_is h 8 0 (Nat.zero_le _) (by have := exG_small h hn; omega)] at this
theorem div_two (n e : Nat) : n / 2 ^ (e + 1) = n / 2 ^ e / 2 := by rw [Nat.pow_succ, Nat.div_div_eq_div_mul]
theorem dst_sym {n e : Nat} (h : ExG 2 n e) (hn : n < 32768) : e * 2 + n / 2 ^ e = dstS (n + 1) ∧ e = dstX (dstS (n + 1)) ∧ n % 2 ^ e = n + 1 - dstF (dstS (n + 1)) ∧ e ≤ 13 ∧ dstS (n + 1) < 30 := by
  rcases Nat.eq_zero_or_pos e with rfl | he
  · have h4 := h.lt
    rw [Nat.pow_zero, Nat.div_one] at h4
    have : ∀ k : Fin 4, 0 * 2 + k.val / 2 ^ 0 = dstS (k.val + 1) ∧ 0 = dstX (dstS (k.val + 1)) ∧ k.val % 2 ^ 0 = k.val + 1 - dstF (dstS (k.val + 1)) ∧ 0 ≤ 13 ∧ dstS (k.val + 1) < 30 := by decide
    exact this ⟨n, h4⟩
  · obtain ⟨d, rfl⟩ : ∃ d, e = d + 1 := ⟨e - 1, by omega⟩
    have hg := h.ge d (by omega)
    have hl := h.lt
    have hs := div_two n d
    obtain ⟨q, hq⟩ : ∃ q, n / 2 ^ (d + 1) = q := ⟨_, rfl⟩
    rw [hq] at hl hs
    have hm := Nat.div_add_mod n (2 ^ (d + 1))
    have hml := Nat.mod_lt n (Nat.two_pow_pos (d + 1))
    rw [hq] at hm
    have hq2 : 2 ≤ q := by omega
    have hP : 2 ^ (d + 1) * 2 ≤ 2 ^ (d + 1) * q := Nat.mul_le_mul_left _ hq2
    have hd : d ≤ 12 := by
      rcases Nat.lt_or_ge 12 d with h1 | h1
      · have : (2 : Nat) ^ 14 ≤ 2 ^ (d + 1) := Nat.pow_le_pow_right (by decide) (by omega)
        rw [show (2 : Nat) ^ 14 = 16384 by rfl] at this
        omega
      · exact h1
    have hqe : q = 2 ∨ q = 3 := by omega
    have hx : ∀ s, 4 ≤ s → dstX s = s / 2 - 1 := fun s h => by unfold dstX; rw [if_neg (by omega)]
    have hf : ∀ s, 4 ≤ s → dstF s = 1 + (2 + s % 2) * 2 ^ (s / 2 - 1) := fun s h => by unfold dstF; rw [if_neg (by omega)]
    have fs : dstF ((d + 1) * 2 + q) = 1 + 2 ^ (d + 1) * q := by
      rw [hf _ (by omega), show (d + 1) * 2 + q = 2 * (d + 1) + q by omega]
      rcases hqe with rfl | rfl
      · rw [show (2 * (d + 1) + 2) % 2 = 0 by omega, show (2 * (d + 1) + 2) / 2 - 1 = d + 1 by omega, Nat.mul_comm]
      · rw [show (2 * (d + 1) + 3) % 2 = 1 by omega, show (2 * (d + 1) + 3) / 2 - 1 = d + 1 by omega, Nat.mul_comm]
    have fn : n + 1 < dstF ((d + 1) * 2 + q + 1) := by
      rw [hf _ (by omega)]
      rcases hqe with rfl | rfl
      · rw [show ((d + 1) * 2 + 2 + 1) % 2 = 1 by omega, show ((d + 1) * 2 + 2 + 1) / 2 - 1 = d + 1 by omega]
        omega
      · rw [show ((d + 1) * 2 + 3 + 1) % 2 = 0 by omega, show ((d + 1) * 2 + 3 + 1) / 2 - 1 = d + 1 + 1 by omega, Nat.pow_succ 2 (d + 1)]
        omega
    have hS : dstS (n + 1) = (d + 1) * 2 + q := by
      have := symGo_is dstF 0 (n + 1) 30 ((d + 1) * 2 + q) (by omega) (by rw [Nat.zero_add, fs]; omega) fun j h1 h2 => by
        rw [Nat.zero_add]
        exact Nat.lt_of_lt_of_le fn (dstF_le ⟨(d + 1) * 2 + q + 1, by omega⟩ ⟨j, h2⟩ h1)
      rw [Nat.zero_add] at this
      exact this
    rw [hq, hS, hx _ (by omega), fs]
    refine ⟨rfl, by omega, by omega, by omega, by omega⟩
set_option maxRecDepth 100000 in
theorem litY_ok {t : TokR} (h : tokOk t = true) (hl : t.lit < 256) : (litY t).idx < 286 ∧ (litY t).ext ≤ 5 ∧ (litY t).more < 2 ^ (litY t).ext := by
  unfold litY
  cases hb : isB t with
  | true => exact ⟨by show t.lit < 286; omega, by show 0 ≤ 5; omega, by show 0 < 2 ^ 0; decide⟩
  | false =>
    have hm : isM t = true := by simpa [tokOk, hb] using h
    obtain ⟨_, _, h3, h4, _⟩ := isM_iff.1 hm
    simp only [Bool.false_eq_true, if_false]
    obtain ⟨n, hn⟩ : ∃ n, t.len.toNat = n + 3 := ⟨t.len.toNat - 3, by omega⟩
    rw [hn]
    have : ∀ k : Fin 256, mlenS (k.val + 3) < 286 ∧ lenX (mlenS (k.val + 3)) ≤ 5 ∧ k.val + 3 - mlenF (mlenS (k.val + 3)) < 2 ^ lenX (mlenS (k.val + 3)) := by decide
    exact this ⟨n, by omega⟩
theorem exG_ex (n : Nat) (hn : n < 32768) : ∃ e, ExG 2 n e := by
  have key : ∀ f i, n / 2 ^ (i + f) < 4 → (∀ j, j < i → 4 ≤ n / 2 ^ j) → ∃ e, ExG 2 n e := by
    intro f
    induction f with
    | zero => exact fun i h1 h2 => ⟨i, h1, h2⟩
    | succ f ih =>
      intro i h1 h2
      by_cases c : n / 2 ^ i < 4
      · exact ⟨i, c, h2⟩
      · refine ih (i + 1) (by rw [show i + 1 + f = i + (f + 1) by omega]; exact h1) fun j hj => ?_
        rcases Nat.lt_or_ge j i with q | q
        · exact h2 j q
        · obtain rfl : j = i := by omega
          omega
  exact key 15 0 (by rw [Nat.zero_add, Nat.div_eq_of_lt (show n < 2 ^ 15 from hn)]; decide) fun j hj => by omega
theorem dstY_ok {t : TokR} (h : isM t = true) : (dstY t).idx < 30 ∧ (dstY t).ext ≤ 13 ∧ (dstY t).more < 2 ^ (dstY t).ext := by
  obtain ⟨h1, h2, _⟩ := isM_iff.1 h
  obtain ⟨n, hn⟩ : ∃ n, t.dist.toNat = n + 1 := ⟨t.dist.toNat - 1, by omega⟩
  obtain ⟨e, he⟩ := exG_ex n (by omega)
  obtain ⟨k1, k2, k3, k4, k5⟩ := dst_sym he (by omega)
  unfold dstY
  rw [hn]
  exact ⟨k5, by show dstX _ ≤ 13; omega, by show n + 1 - dstF _ < 2 ^ dstX _; rw [← k2, ← k3]; exact Nat.mod_lt _ (Nat.two_pow_pos _)⟩
def pcK : List (Nat × Nat) → Nat
  | [] => 0
  | p :: r => p.2 + pcK r
def pcN : List (Nat × Nat) → Nat
  | [] => 0
  | p :: r => p.1 + 2 ^ p.2 * pcN r
theorem pcK_app : ∀ a b : List (Nat × Nat), pcK (a ++ b) = pcK a + pcK b
  | [], b => by simp [pcK]
  | p :: r, b => by rw [List.cons_append, pcK, pcK_app r b, pcK]; omega
theorem pcN_app : ∀ a b : List (Nat × Nat), pcN (a ++ b) = pcN a + 2 ^ pcK a * pcN b
  | [], b => by simp [pcK, pcN]
  | p :: r, b => by rw [List.cons_append, pcN, pcN_app r b, pcN, pcK, Nat.mul_add, Nat.pow_add, Nat.mul_assoc, Nat.add_assoc]
theorem pcN_at (N k : Nat) (a b : List (Nat × Nat)) : N + pcN a * 2 ^ k + pcN b * 2 ^ (k + pcK a) = N + pcN (a ++ b) * 2 ^ k := by
  rw [pcN_app, Nat.add_mul, Nat.pow_add, Nat.add_assoc, Nat.mul_comm (2 ^ pcK a) (pcN b), Nat.mul_assoc, Nat.mul_comm (2 ^ k) (2 ^ pcK a)]
def symP (l : List Int) (s : SymT) : List (Nat × Nat) := [(revB (codeF l s.idx) (lenF l s.idx), lenF l s.idx), (s.more, s.ext)]
def tokP (L D : List Int) (t : TokR) : List (Nat × Nat) := symP L (litY t) ++ if isB t then [] else symP D (dstY t)
def toksP (L D : List Int) (ts : List TokR) : List (Nat × Nat) := ts.flatMap (tokP L D) ++ symP L ⟨256, 0, 0⟩
theorem symP_le {l : List Int} (h : IsCode l) {s : SymT} (hs : s.ext ≤ 13) : pcK (symP l s) ≤ 28 := by
  have := (h.len s.idx).1
  show lenF l s.idx + (s.ext + 0) ≤ 28
  omega
theorem tokP_le {L D : List Int} (hL : IsCode L) (hD : IsCode D) {t : TokR} (h : tokOk t = true) (hl : t.lit < 256) : pcK (tokP L D t) ≤ 56 := by
  unfold tokP
  rw [pcK_app]
  have h1 := symP_le hL (s := litY t) (by have := (litY_ok h hl).2.1; omega)
  cases hb : isB t with
  | true => rw [if_pos rfl]; show pcK _ + 0 ≤ 56; omega
  | false =>
    have hm : isM t = true := by simpa [tokOk, hb] using h
    have h2 := symP_le hD (s := dstY t) (by have := (dstY_ok hm).2.1; omega)
    simp only [Bool.false_eq_true, if_false]
    omega
theorem toks_le {L D : List Int} (hL : IsCode L) (hD : IsCode D) : ∀ ts : List TokR, costOk ts = true → (∀ t ∈ ts, t.lit < 256) → pcK (ts.flatMap (tokP L D)) ≤ 56 * ts.length
  | [], _, _ => by simp [pcK]
  | t :: r, h, hl => by
    have h1 : tokOk t = true ∧ costOk r = true := by simpa [costOk] using h
    have h2 := tokP_le hL hD h1.1 (hl t (by simp))
    have h3 := toks_le hL hD r h1.2 fun x hx => hl x (by simp [hx])
    rw [List.flatMap_cons, pcK_app, List.length_cons]
    omega
end Go.Proofs.YtkmbgkcpohchhaaGreatDoor
namespace Go.Proofs.YtkmbgkcpohchhaaGreatDoor
open Go.RowKit
set_option linter.unusedVariables false
theorem own_base {w : World} {B B' t size n : Nat} {v : Value} {xs : List Value} (h : w.ownsRow B t size v n xs) (hB : B' ≤ B) : w.ownsRow B' t size v n xs := by
  refine ⟨h.1, ?_⟩
  rcases h.2 with ⟨e, h0⟩ | ⟨g, cap, cur, e, h1, h2⟩
  · exact .inl ⟨e, h0⟩
  · exact .inr ⟨g, cap, cur, e, Nat.le_trans hB h1, h2⟩
end Go.Proofs.YtkmbgkcpohchhaaGreatDoor

import Derived.Test.YtkmbgkcpohchhaaGreatDoorMapC
/- Plain: what is found so far, and what one token more does to it. -/
namespace Go.Proofs.YtkmbgkcpohchhaaGreatDoor
open Go.RowKit
set_option linter.unusedVariables false
def shiftP (ps : List Int) (v : Int) : List Int := v :: ps.take 7
def AllB (s : ByteArray) (b : UInt8) : Prop := ∀ i, i < s.size → s.data[i]? = some b
/-- A text's byte. -/
def sB (s : ByteArray) (i : Nat) : UInt8 := (s.data[i]?).getD 0
/-- What is kept, when three bytes that no match reaches any more are dropped. -/
def fgtP (s : ByteArray) (a : Nat) (F : Pl) : Pl := if (F (sB s a) (sB s (a + 1)) (sB s (a + 2))).getD 0 0 = ((a : Nat) : Int) + 1 then upd F (sB s a) (sB s (a + 1)) (sB s (a + 2)) zero8 else F
def keptP (s : ByteArray) (k : Nat) (F : Pl) : Pl := if 32768 ≤ k then fgtP s (k - 32768) F else F
/-- The places kept for the first k bytes. -/
def Fk (s : ByteArray) : Nat → Pl
  | 0 => fun _ _ _ => zero8
  | k + 1 => if k + 2 < s.size then keptP s k (upd (Fk s k) (sB s k) (sB s (k + 1)) (sB s (k + 2)) (shiftP (Fk s k (sB s k) (sB s (k + 1)) (sB s (k + 2))) (k + 1))) else Fk s k
/-- The token at k. -/
def tokF (s : ByteArray) (k : Nat) : TokR := if k + 2 < s.size then bstGo s k (Fk s k (sB s k) (sB s (k + 1)) (sB s (k + 2))) ⟨(sB s k).toNat, 0, 0⟩ else ⟨(sB s k).toNat, 0, 0⟩
def KInv (s : ByteArray) (k : Nat) (F : Pl) : Prop := PlsOk s k F ∧ (∀ b, AllB s b → 1 ≤ k → k + 1 < s.size → (F b b b).getD 0 0 = (k : Int)) ∧ F = Fk s k
theorem PlOk.mono {s : ByteArray} {k m : Nat} {x y z : UInt8} {p : Int} (h : PlOk s k x y z p) (hm : k ≤ m) : PlOk s m x y z p := by
  rcases h with h | ⟨q, h1, h2, h3⟩
  · exact .inl h
  · exact .inr ⟨q, h1, by omega, h3⟩
theorem KInv.start (s : ByteArray) : KInv s 0 (fun _ _ _ => zero8) :=
  ⟨fun x y z p hp => .inl (by simp [zero8] at hp; exact hp), fun b _ h => absurd h (by omega), rfl⟩
theorem KInv.short {s : ByteArray} {k : Nat} {F : Pl} (h : KInv s k F) (hk : s.size < k + 3) : KInv s (k + 1) F :=
  ⟨fun x y z p hp => (h.1 x y z p hp).mono (by omega), fun b _ _ h2 => absurd h2 (by omega), by rw [Fk, if_neg (by omega)]; exact h.2.2⟩
theorem PlsOk.kept {s : ByteArray} {m k : Nat} {F : Pl} (h : PlsOk s m F) : PlsOk s m (keptP s k F) := by
  unfold keptP
  split
  · unfold fgtP
    split
    · intro a b c p hp
      unfold upd at hp
      split at hp
      · exact .inl (by simp [zero8] at hp; exact hp)
      · exact h a b c p hp
    · exact h
  · exact h
theorem KInv.long {s : ByteArray} {k : Nat} {F : Pl} (h : KInv s k F) (hk : k + 2 < s.size) {x y z : UInt8} (hx : s.data[k]? = some x) (hy : s.data[k + 1]? = some y) (hz : s.data[k + 2]? = some z) : KInv s (k + 1) (keptP s k (upd F x y z (shiftP (F x y z) (k + 1)))) := by
  refine ⟨PlsOk.kept (fun a b c p hp => ?_), fun b hb _ _ => ?_, by
    have ex : sB s k = x := by unfold sB; rw [hx]; rfl
    have ey : sB s (k + 1) = y := by unfold sB; rw [hy]; rfl
    have ez : sB s (k + 2) = z := by unfold sB; rw [hz]; rfl
    rw [Fk, if_pos hk, ex, ey, ez, ← h.2.2]⟩
  · unfold upd at hp
    by_cases e : x = a ∧ y = b ∧ z = c
    · rw [if_pos e] at hp
      obtain ⟨rfl, rfl, rfl⟩ := e
      rcases List.mem_cons.1 hp with rfl | hp
      · exact .inr ⟨k, rfl, by omega, hx, hy, hz⟩
      · exact (h.1 x y z p (List.mem_of_mem_take hp)).mono (by omega)
    · rw [if_neg e] at hp
      exact (h.1 a b c p hp).mono (by omega)
  · have ex : x = b := by have := hb k (by omega); rw [hx] at this; injection this
    have ey : y = b := by have := hb (k + 1) (by omega); rw [hy] at this; injection this
    have ez : z = b := by have := hb (k + 2) (by omega); rw [hz] at this; injection this
    subst ex; subst ey; subst ez
    have hu : ((upd F z z z (shiftP (F z z z) (k + 1))) z z z).getD 0 0 = ((k + 1 : Nat) : Int) := by
      unfold upd
      rw [if_pos ⟨rfl, rfl, rfl⟩]
      show ((k : Int) + 1) = ((k + 1 : Nat) : Int)
      omega
    unfold keptP
    split
    · rename_i h32
      have hs : ∀ i, i < s.size → sB s i = z := fun i hi => by unfold sB; rw [hb i hi]; rfl
      unfold fgtP
      rw [hs _ (by omega), hs _ (by omega), hs _ (by omega), if_neg (by rw [hu]; omega)]
      exact hu
    · exact hu
/-- All tokens from k on, behind these. -/
def findGo (s : ByteArray) : Nat → Nat → List TokR → List TokR
  | 0, _, l => l
  | f + 1, k, l => if k < s.size then findGo s f (k + max 1 (tokF s k).len.toNat) (l ++ [tokF s k]) else l
def findL (s : ByteArray) : List TokR := findGo s s.size 0 []
theorem findGo_fuel (s : ByteArray) : ∀ f g k l, s.size - k ≤ f → s.size - k ≤ g → findGo s f k l = findGo s g k l
  | 0, 0, k, l, _, _ => rfl
  | 0, g + 1, k, l, h, _ => by
    rw [findGo, findGo, if_neg (by omega)]
  | f + 1, 0, k, l, _, h => by
    rw [findGo, findGo, if_neg (by omega)]
  | f + 1, g + 1, k, l, h1, h2 => by
    rw [findGo, findGo]
    split
    · exact findGo_fuel s f g _ _ (by omega) (by omega)
    · rfl
/-- The tokens for the first k bytes. -/
structure FInv (s : ByteArray) (k : Nat) (l : List TokR) : Prop where
  lit : ∀ o ∈ l, o.lit < 256
  exp : expGo s.size l [] = (0, s.data.toList.take k)
  len : l.length ≤ k
  runs : ∀ b, AllB s b → 258 * l.length ≤ k + 257 + 258 * (k + 2 - s.size)
  find : ∀ f, s.size - k ≤ f → findGo s f k l = findL s
theorem FInv.start (s : ByteArray) : FInv s 0 [] := ⟨by simp, by simp [expGo], Nat.le_refl _, fun b _ => by simp, fun f hf => findGo_fuel s f s.size 0 [] hf (by omega)⟩
theorem expGo_app {limit : Int} : ∀ (a b : List TokR) (out res : List UInt8), expGo limit a out = (0, res) → expGo limit (a ++ b) out = expGo limit b res
  | [], b, out, res, h => by
    have : out = res := by simpa [expGo] using h
    rw [this]; rfl
  | t :: a, b, out, res, h => by
    rw [List.cons_append]
    rw [expGo] at h ⊢
    by_cases e : tokE t out.length limit = 0
    · rw [if_pos e] at h ⊢
      exact expGo_app a b _ res h
    · rw [if_neg e] at h
      have h1 : tokE t out.length limit = 0 := by injection h
      exact absurd h1 e
theorem list_get {s : ByteArray} {i : Nat} {b : UInt8} (h : s.data[i]? = some b) : s.data.toList[i]? = some b := by simpa using h
theorem take_snoc' {s : ByteArray} {k : Nat} {b : UInt8} (h : s.data[k]? = some b) : s.data.toList.take (k + 1) = s.data.toList.take k ++ [b] := by
  have h2 := list_get h
  rw [List.take_add_one, h2]
  rfl
theorem take_len (s : ByteArray) {k : Nat} (h : k ≤ s.size) : (s.data.toList.take k).length = k := by
  rw [List.length_take]
  have : s.data.toList.length = s.size := by simp
  omega
theorem rep_take {s : ByteArray} {k d n : Nat} (hd : 1 ≤ d) (hdk : d ≤ k) (hn : k + n ≤ s.size) (hs : Same s (k - d) k n) : ∀ j, j ≤ n → rep (s.data.toList.take k) d j = s.data.toList.take (k + j)
  | 0, _ => rfl
  | j + 1, hj => by
    rw [rep, rep_take hd hdk hn hs j (by omega), rep1, take_len s (by omega)]
    have hlt : k + j < s.size := by omega
    have hb : s.data[k + j]? = some s[k + j] := Array.getElem?_eq_getElem hlt
    have h1 := hs j (by omega)
    rw [hb] at h1
    have h2 := list_get h1
    have e : (s.data.toList.take (k + j)).getD (k + j - d) 0 = s[k + j] := by
      rw [List.getD_eq_getElem?_getD, List.getElem?_take, if_pos (by omega), show k + j - d = k - d + j by omega, h2]
      rfl
    rw [e, ← Nat.add_assoc, take_snoc' hb]
def tlen (t : TokR) : Nat := max 1 t.len.toNat
theorem TokAt.facts {s : ByteArray} {k : Nat} {t : TokR} (h : TokAt s k t) (hk : k < s.size) : tokE t k s.size = 0 ∧ tokX t (s.data.toList.take k) = s.data.toList.take (k + tlen t) ∧ t.lit < 256 ∧ k + tlen t ≤ s.size ∧ 0 ≤ t.len ∧ t.len ≤ 258 ∧ (t.len = 0 ∨ 3 ≤ t.len) := by
  rcases h with ⟨b, hb, rfl⟩ | ⟨n, d, rfl, h1, h2, h3, h4, h5, h6, h7⟩
  · refine ⟨?_, ?_, b.toNat_lt, ?_, ?_, ?_, .inl rfl⟩
    · show (if isB ⟨b.toNat, 0, 0⟩ then (if (s.size : Int) - k < 1 then 11 else 0) else _) = (0 : Int)
      rw [show isB ⟨b.toNat, 0, 0⟩ = true from rfl, if_pos rfl, if_neg (by omega)]
    · show (if isB ⟨b.toNat, 0, 0⟩ then s.data.toList.take k ++ [UInt8.ofNat b.toNat] else _) = s.data.toList.take (k + 1)
      rw [show isB ⟨b.toNat, 0, 0⟩ = true from rfl, if_pos rfl, take_snoc' hb, UInt8.ofNat_toNat]
    · show k + 1 ≤ s.size; omega
    · show (0 : Int) ≤ 0; omega
    · show (0 : Int) ≤ 258; omega
  · have hb : isB ⟨0, n, d⟩ = false := by unfold isB; simp; omega
    have hm : isM ⟨0, n, d⟩ = true := isM_iff.2 ⟨by show (1 : Int) ≤ d; omega, by show (d : Int) ≤ 32768; omega, by show (3 : Int) ≤ n; omega, by show (n : Int) ≤ 258; omega, rfl⟩
    have htl : tlen ⟨0, n, d⟩ = n := by unfold tlen; show max 1 ((n : Int).toNat) = n; omega
    refine ⟨?_, ?_, (show (0 : Nat) < 256 by decide), ?_, ?_, ?_, .inr ?_⟩
    · show (if isB ⟨0, n, d⟩ then _ else if isM ⟨0, n, d⟩ then (if (k : Int) < (d : Int) then 3 else if (s.size : Int) - k < (n : Int) then 11 else 0) else 1) = (0 : Int)
      rw [hb, hm, if_neg (by decide), if_pos rfl, if_neg (by omega), if_neg (by omega)]
    · rw [htl]
      show (if isB ⟨0, n, d⟩ then _ else rep (s.data.toList.take k) (d : Int).toNat (n : Int).toNat) = _
      rw [hb, if_neg (by decide)]
      exact rep_take h4 h5 h3 h7 n (Nat.le_refl _)
    · rw [htl]; exact h3
    · show (0 : Int) ≤ n; omega
    · show (n : Int) ≤ 258; omega
    · show (3 : Int) ≤ n; omega
theorem FInv.step {s : ByteArray} {k : Nat} {l : List TokR} {t : TokR} (h : FInv s k l) (hk : k < s.size) (ht : TokAt s k t) (hr : ∀ b, AllB s b → 1 ≤ k → k + 2 < s.size → (min (s.size - k) 258 : Nat) ≤ t.len.toNat) (htf : t = tokF s k) : FInv s (k + tlen t) (l ++ [t]) := by
  obtain ⟨h1, h2, h3, h4, h5, h6, h7⟩ := ht.facts hk
  have htl : 1 ≤ tlen t := by unfold tlen; omega
  refine ⟨?_, ?_, ?_, ?_, fun f hf => by
    have h := h.find (s.size + f + 1) (by omega)
    rw [findGo, if_pos hk, ← htf] at h
    exact (findGo_fuel s f (s.size + f) (k + tlen t) (l ++ [t]) hf (by omega)).trans h⟩
  · intro o ho
    rcases List.mem_append.1 ho with ho | ho
    · exact h.lit o ho
    · rw [List.mem_singleton] at ho; subst ho; exact h3
  · rw [expGo_app l [t] [] _ h.exp, expGo, take_len s (by omega), if_pos h1, h2]
    rfl
  · rw [List.length_append, List.length_singleton]
    have := h.len
    omega
  · intro b hb
    have h8 := h.runs b hb
    rw [List.length_append, List.length_singleton]
    by_cases hk0 : k = 0
    · subst hk0
      have := h.len
      omega
    · by_cases hk2 : k + 2 < s.size
      · have := hr b hb (by omega) hk2
        have e : tlen t = t.len.toNat := by unfold tlen; omega
        rw [e] at h4 ⊢
        omega
      · omega
theorem FInv.fin {s : ByteArray} {l : List TokR} (h : FInv s s.size l) : l = findL s := by
  have h1 := h.find 0 (by omega)
  exact h1
/-- What Find tells. -/
def FindOk (s : ByteArray) (l : List TokR) : Prop := (∀ o ∈ l, o.lit < 256) ∧ expGo s.size l [] = (0, s.data.toList) ∧ l.length ≤ s.size ∧ ∀ b, AllB s b → l.length ≤ 3 + s.size / 200
theorem FInv.done {s : ByteArray} {l : List TokR} (h : FInv s s.size l) : FindOk s l := by
  refine ⟨h.lit, ?_, h.len, fun b hb => ?_⟩
  · rw [h.exp, List.take_of_length_le (by simp)]
  · have := h.runs b hb
    have := h.len
    omega
theorem reach_all {s : ByteArray} {k : Nat} {F : Pl} {t : TokR} (h : KInv s k F) (hk : k + 2 < s.size) {x y z : UInt8} (hx : s.data[k]? = some x) (hy : s.data[k + 1]? = some y) (hz : s.data[k + 2]? = some z) (hr : Reach s k ((F x y z).getD 0 0) t) (h0 : 0 ≤ t.len) : ∀ b, AllB s b → 1 ≤ k → k + 2 < s.size → (min (s.size - k) 258 : Nat) ≤ t.len.toNat := by
  intro b hb h1 _
  have ex : x = b := by have := hb k (by omega); rw [hx] at this; injection this
  have ey : y = b := by have := hb (k + 1) (by omega); rw [hy] at this; injection this
  have ez : z = b := by have := hb (k + 2) (by omega); rw [hz] at this; injection this
  subst ex; subst ey; subst ez
  have hh := h.2.1 _ hb h1 (by omega)
  have := hr (k - 1) (min (s.size - k) 258) (by rw [hh]; omega) (by omega) (by omega) (Nat.le_refl _) (fun i hi => by rw [hb _ (by omega), hb _ (by omega)])
  omega
end Go.Proofs.YtkmbgkcpohchhaaGreatDoor

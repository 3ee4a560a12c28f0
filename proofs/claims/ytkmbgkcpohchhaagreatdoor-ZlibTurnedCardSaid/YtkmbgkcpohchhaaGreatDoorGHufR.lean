import Derived.Test.YtkmbgkcpohchhaaGreatDoorGHufG
import Derived.Test.YtkmbgkcpohchhaaGreatDoorGDefWH
import Derived.Test.YtkmbgkcpohchhaaGreatDoorGInfP
import Derived.Test.YtkmbgkcpohchhaaGreatDoorGDefN
import Derived.Test.YtkmbgkcpohchhaaGreatDoorGDefV
import Derived.Test.YtkmbgkcpohchhaaGreatDoorGDefR
import Derived.Test.YtkmbgkcpohchhaaGreatDoorInfO
namespace Go.Proofs.YtkmbgkcpohchhaaGreatDoor
open Go.RowKit
set_option linter.unusedVariables false
theorem lfK_own {l : List Int} (h : IsCode l) {x : Nat} (hx : 0 < lenF l x) : lfK l l.length (lenF l x, codeF l x) = some x := by
  cases e : lfK l l.length (lenF l x, codeF l x) with
  | none => exact absurd ⟨hx, rfl, rfl⟩ (lfK_none e (lenF_lt hx))
  | some i =>
    obtain ⟨h1, h2, h3, h4⟩ := lfK_some e
    have h3 : lenF l i = lenF l x := h3
    have h4 : codeF l i = codeF l x := h4
    have := code_apart h (i := i) (j := x) (by rw [h3]; exact hx) (by rw [h3]; exact Nat.le_refl _) (by rw [h3, h4]; simp)
    rw [this]
theorem dGo_back {l : List Int} (h : IsCode l) (s : ByteArray) {x p : Nat} (hx : 0 < lenF l x) (hb : ∀ i, i < lenF l x → bv s (p + i) 1 = codeF l x / 2 ^ (lenF l x - 1 - i) % 2) (hs : p + lenF l x ≤ 8 * s.size) :
    ∀ m f, m ≤ lenF l x → m < f → dGo l s f (lenF l x - m, codeF l x / 2 ^ m) (p + (lenF l x - m)) = (x, 0, p + lenF l x)
  | 0, f, _, hf => by
    obtain ⟨f, rfl⟩ : ∃ g, f = g + 1 := ⟨f - 1, by omega⟩
    rw [Nat.sub_zero, Nat.pow_zero, Nat.div_one]
    exact dGo_leaf (lfK_own h hx) s f _
  | m + 1, f, hm, hf => by
    obtain ⟨f, rfl⟩ : ∃ g, f = g + 1 := ⟨f - 1, by omega⟩
    have hn : ndB l (lenF l x - (m + 1), codeF l x / 2 ^ (m + 1)) = true := (ndB_iff l _).2 ⟨x, lenF_lt hx, by show lenF l x - (m + 1) < lenF l x; omega, by
      show codeF l x / 2 ^ (lenF l x - (lenF l x - (m + 1))) = codeF l x / 2 ^ (m + 1)
      rw [show lenF l x - (lenF l x - (m + 1)) = m + 1 by omega]⟩
    rw [dGo_on (nd_apart h hn) hn s f _ (by omega)]
    have e := hb (lenF l x - (m + 1)) (by omega)
    rw [show lenF l x - 1 - (lenF l x - (m + 1)) = m by omega] at e
    have e2 : 2 * (codeF l x / 2 ^ (m + 1)) + bv s (p + (lenF l x - (m + 1))) 1 = codeF l x / 2 ^ m := by
      rw [e, Nat.pow_succ, ← Nat.div_div_eq_div_mul]; omega
    have e1 : lenF l x - (m + 1) + 1 = lenF l x - m := by omega
    have h1 := dGo_back h s hx hb hs m f (by omega) (by omega)
    show dGo l s f (lenF l x - (m + 1) + 1, 2 * (codeF l x / 2 ^ (m + 1)) + bv s (p + (lenF l x - (m + 1))) 1) (p + (lenF l x - (m + 1)) + 1) = _
    rw [e2, e1, show p + (lenF l x - (m + 1)) + 1 = p + (lenF l x - m) by omega]
    exact h1
end Go.Proofs.YtkmbgkcpohchhaaGreatDoor
namespace Go.Proofs.YtkmbgkcpohchhaaGreatDoor
open Go.RowKit
set_option linter.unusedVariables false
def PcAt (s : ByteArray) : Nat → List (Nat × Nat) → Prop
  | _, [] => True
  | k, p :: r => k + p.2 ≤ 8 * s.size ∧ bv s k p.2 = p.1 ∧ PcAt s (k + p.2) r
theorem pcAt_of {s : ByteArray} {M : Nat} (hs : leN s.data.toList = M) : ∀ (P : List (Nat × Nat)) (k : Nat), (∀ p ∈ P, p.1 < 2 ^ p.2) → M / 2 ^ k % 2 ^ pcK P = pcN P → k + pcK P ≤ 8 * s.size → PcAt s k P
  | [], _, _, _, _ => trivial
  | p :: r, k, hp, hM, hk => by
    rw [pcK] at hM hk
    rw [pcN, mod_split] at hM
    have h1 := hp p (by simp)
    have h2 : M / 2 ^ k % 2 ^ p.2 < 2 ^ p.2 := Nat.mod_lt _ (Nat.two_pow_pos _)
    have e1 : M / 2 ^ k % 2 ^ p.2 = p.1 := by
      have := congrArg (· % 2 ^ p.2) hM
      simp only [Nat.add_mul_mod_self_left, Nat.mod_mod] at this
      rwa [Nat.mod_eq_of_lt h1] at this
    have e2 : M / 2 ^ k / 2 ^ p.2 % 2 ^ pcK r = pcN r := by
      rw [e1] at hM
      exact Nat.eq_of_mul_eq_mul_left (Nat.two_pow_pos p.2) (Nat.add_left_cancel hM)
    refine ⟨by omega, by unfold bv; rw [hs]; exact e1, pcAt_of hs r (k + p.2) (fun q hq => hp q (by simp [hq])) ?_ (by omega)⟩
    rw [Nat.pow_add, ← Nat.div_div_eq_div_mul]
    exact e2
theorem pcAt_app {s : ByteArray} : ∀ {a b : List (Nat × Nat)} {k : Nat}, PcAt s k (a ++ b) → PcAt s k a ∧ PcAt s (k + pcK a) b
  | [], b, k, h => ⟨trivial, h⟩
  | p :: r, b, k, h => by
    obtain ⟨h1, h2, h3⟩ := h
    obtain ⟨h4, h5⟩ := pcAt_app h3
    refine ⟨⟨h1, h2, h4⟩, ?_⟩
    rw [pcK, ← Nat.add_assoc]
    exact h5
theorem revB_bit (c : Nat) : ∀ n i, i < n → revB c n / 2 ^ i % 2 = c / 2 ^ (n - 1 - i) % 2
  | n + 1, 0, _ => by rw [revB, Nat.pow_zero, Nat.div_one, show n + 1 - 1 - 0 = n by omega]; omega
  | n + 1, i + 1, h => by
    have := revB_bit c n i (by omega)
    rw [revB, Nat.pow_succ, Nat.mul_comm (2 ^ i) 2, ← Nat.div_div_eq_div_mul, show (2 * revB c n + c / 2 ^ n % 2) / 2 = revB c n by omega, this, show n + 1 - 1 - (i + 1) = n - 1 - i by omega]
theorem bv_bitn (s : ByteArray) (k n i : Nat) (h : i < n) : bv s (k + i) 1 = bv s k n / 2 ^ i % 2 := by
  unfold bv
  rw [Nat.pow_add, ← Nat.div_div_eq_div_mul]
  generalize leN s.data.toList / 2 ^ k = M
  obtain ⟨d, rfl⟩ : ∃ d, n = i + d + 1 := ⟨n - i - 1, by omega⟩
  rw [show i + d + 1 = i + (d + 1) by omega, mod_split M i (d + 1), Nat.add_mul_div_left _ _ (Nat.two_pow_pos i), Nat.div_eq_of_lt (Nat.mod_lt _ (Nat.two_pow_pos i)), Nat.zero_add, Nat.pow_one]
  rw [Nat.pow_succ, Nat.mul_comm (2 ^ d) 2, Nat.mod_mul_right_mod]
theorem sym_back {l : List Int} (h : IsCode l) {s : ByteArray} {k x : Nat} (hx : 0 < lenF l x) (hb : bv s k (lenF l x) = revB (codeF l x) (lenF l x)) (hs : k + lenF l x ≤ 8 * s.size) :
    nextE l s k = 0 ∧ nextV l s k = x ∧ nextK l s k = k + lenF l x := by
  have h15 := (h.len x).1
  have h1 := dGo_back h s hx (fun i hi => by rw [bv_bitn s k (lenF l x) i hi, hb, revB_bit _ _ _ hi]) hs (lenF l x) 16 (Nat.le_refl _) (by omega)
  rw [Nat.sub_self, Nat.div_eq_of_lt (code_lt h hx), Nat.add_zero] at h1
  have hR : nextR l s k = (x, 0, k + lenF l x) := h1
  have hE : nextE l s k = 0 := by unfold nextE; rw [hR]
  exact ⟨hE, by unfold nextV; rw [hR], by unfold nextK; rw [if_pos hE, hR]⟩
theorem sym1_back {l : List Int} (h : IsCode l) {s : ByteArray} {k x : Nat} {r : List (Nat × Nat)} (hx : 0 < lenF l x) (hp : PcAt s k ((revB (codeF l x) (lenF l x), lenF l x) :: r)) (f : Nat → Nat → IOut) :
    sym1 s l k f = f x (k + lenF l x) := by
  obtain ⟨h1, h2, _⟩ := hp
  obtain ⟨hE, hV, hK⟩ := sym_back h hx h2 h1
  rw [sym1_ok hE, hV, hK]
theorem num_back {s : ByteArray} {k : Nat} {p : Nat × Nat} {r : List (Nat × Nat)} (hp : PcAt s k (p :: r)) (f : Nat → Nat → IOut) : num s k p.2 f = f p.1 (k + p.2) := by
  obtain ⟨h1, h2, _⟩ := hp
  rw [num_ok h1, h2]
set_option maxRecDepth 100000 in
theorem lenR_sym : ∀ k : Fin 256, lenR (mlenS (k.val + 3) - 257) = (mlenF (mlenS (k.val + 3)), lenX (mlenS (k.val + 3))) ∧ 257 ≤ mlenS (k.val + 3) ∧ mlenS (k.val + 3) < 286 ∧ mlenF (mlenS (k.val + 3)) ≤ k.val + 3 := by decide
theorem distR_sym : ∀ k : Fin 30, distR k.val = (dstF k.val, dstX k.val) := by decide
theorem distR_at (i : Nat) (h : i < 30) : distR i = (dstF i, dstX i) := distR_sym ⟨i, h⟩
theorem tok_back {s : ByteArray} {lim : Nat} {L D : List Int} (hL : IsCode L) (hD : IsCode D) {last : Bool} {t : TokR} {k : Nat} {out : List UInt8} (hl : t.lit < 256) (hE : tokE t out.length lim = 0)
    (h1 : 0 < lenF L (litY t).idx) (h2 : isB t = false → 0 < lenF D (dstY t).idx) (hp : PcAt s k (tokP L D t)) :
    step s lim ⟨.sym last L D, k, out⟩ = .go ⟨.sym last L D, k + pcK (tokP L D t), tokX t out⟩ := by
  rw [step_sym]
  unfold stSym
  unfold tokP at hp ⊢
  cases hb : isB t with
  | true =>
    have e : litY t = ⟨t.lit, 0, 0⟩ := by unfold litY; rw [hb, if_pos rfl]
    rw [hb, if_pos rfl, List.append_nil, e] at hp
    rw [e] at h1
    rw [if_pos rfl, List.append_nil, e]
    rw [sym1_back hL h1 hp]
    have hlim : ¬ lim < out.length + 1 := by
      unfold tokE at hE
      rw [hb, if_pos rfl] at hE
      split at hE
      · cases hE
      · omega
    rw [if_neg (by show ¬ t.lit = 256; omega), if_pos hl, if_neg hlim]
    have : tokX t out = out ++ [UInt8.ofNat t.lit] := by unfold tokX; rw [hb, if_pos rfl]
    rw [this]
    rfl
  | false =>
    have hm : isM t = true := by
      unfold tokE at hE
      rw [hb] at hE
      cases h : isM t with
      | true => rfl
      | false => rw [h] at hE; simp at hE
    obtain ⟨b1, b2, b3, b4, _⟩ := isM_iff.1 hm
    unfold tokE at hE
    rw [hb, hm] at hE
    simp only [Bool.false_eq_true, if_false, if_true] at hE
    have hE1 : ¬ (out.length : Int) < t.dist := fun h => by rw [if_pos h] at hE; cases hE
    rw [if_neg hE1] at hE
    have hE2 : ¬ (lim : Int) - out.length < t.len := fun h => by rw [if_pos h] at hE; cases hE
    obtain ⟨nl, hnl⟩ : ∃ n, t.len.toNat = n + 3 := ⟨t.len.toNat - 3, by omega⟩
    obtain ⟨r1, r2, r3, r4⟩ := lenR_sym ⟨nl, by omega⟩
    obtain ⟨q1, q2, q3⟩ := dstY_ok hm
    have r5 := distR_at (dstY t).idx q1
    obtain ⟨sd, hsd, hsd2, hsd3, _⟩ := dstS_lt t.dist.toNat (by omega) (by omega)
    have eL : litY t = ⟨mlenS (nl + 3), lenX (mlenS (nl + 3)), nl + 3 - mlenF (mlenS (nl + 3))⟩ := by unfold litY; rw [hb, hnl]; simp
    have eD : dstY t = ⟨dstS t.dist.toNat, dstX (dstS t.dist.toNat), t.dist.toNat - dstF (dstS t.dist.toNat)⟩ := rfl
    rw [hb, if_neg (by simp)] at hp
    rw [if_neg (by simp)]
    rw [eL] at hp h1
    rw [eL]
    have h2 := h2 hb
    rw [eD] at hp h2 q1 r5
    rw [eD]
    simp only at r1 r2 r3 r4 r5 h1 h2 q1
    have hle : dstF (dstS t.dist.toNat) ≤ t.dist.toNat := by rw [hsd2]; exact hsd3
    have hX : tokX t out = rep out t.dist.toNat (nl + 3) := by unfold tokX; rw [hb, if_neg (by simp), hnl]
    rw [hX]
    generalize mlenS (nl + 3) = sl at *
    generalize dstS t.dist.toNat = sd' at *
    obtain ⟨p1, p2⟩ := pcAt_app hp
    rw [sym1_back hL h1 p1, if_neg (by omega), if_neg (by omega)]
    unfold stMatch
    rw [if_neg (by omega), r1]
    simp only
    rw [num_back p1.2.2]
    simp only [symP, pcK, Nat.add_zero] at p2 ⊢
    rw [← Nat.add_assoc] at p2
    rw [sym1_back hD h2 p2, if_neg (by omega), r5]
    simp only
    rw [num_back p2.2.2]
    simp only
    rw [if_neg (by omega), if_neg (by omega)]
    rw [show mlenF sl + (nl + 3 - mlenF sl) = nl + 3 by omega, show dstF sd' + (t.dist.toNat - dstF sd') = t.dist.toNat by omega]
    simp only [pcK_app, pcK, Nat.add_zero, Nat.add_assoc]
end Go.Proofs.YtkmbgkcpohchhaaGreatDoor
namespace Go.Proofs.YtkmbgkcpohchhaaGreatDoor
open Go.RowKit
set_option linter.unusedVariables false
def TokHas (L D : List Int) (t : TokR) : Prop := 0 < lenF L (litY t).idx ∧ (isB t = false → 0 < lenF D (dstY t).idx)
theorem toksP_cons (L D : List Int) (t : TokR) (r : List TokR) : toksP L D (t :: r) = tokP L D t ++ toksP L D r := by
  unfold toksP
  rw [List.flatMap_cons, List.append_assoc]
theorem toks_back {s : ByteArray} {lim : Nat} {L D : List Int} (hL : IsCode L) (hD : IsCode D) (h256 : 0 < lenF L 256) : ∀ (ts : List TokR) (k : Nat) (out res : List UInt8), expGo lim ts out = (0, res) → (∀ t ∈ ts, t.lit < 256 ∧ TokHas L D t) → PcAt s k (toksP L D ts) →
    Leads s lim (.go ⟨.sym true L D, k, out⟩) (.fin (k + pcK (toksP L D ts)) res)
  | [], k, out, res, he, _, hp => by
    have hres : out = res := by
      rw [expGo] at he
      injection he
    subst hres
    refine (Leads.refl _).then ?_
    rw [step_sym]
    unfold stSym
    rw [sym1_back hL h256 hp, if_pos rfl]
    rfl
  | t :: r, k, out, res, he, hts, hp => by
    rw [expGo] at he
    have hE : tokE t out.length lim = 0 := by
      split at he
      · assumption
      · rename_i c
        exact absurd (congrArg Prod.fst he) c
    rw [if_pos hE] at he
    obtain ⟨h1, h2, h3⟩ := hts t (by simp)
    rw [toksP_cons] at hp
    obtain ⟨p1, p2⟩ := pcAt_app hp
    have hstep := tok_back (last := true) hL hD h1 hE h2 h3 p1
    have := toks_back hL hD h256 r _ _ res he (fun x hx => hts x (by simp [hx])) p2
    rw [toksP_cons, pcK_app, ← Nat.add_assoc]
    exact ((Leads.refl _).then hstep).trans this
end Go.Proofs.YtkmbgkcpohchhaaGreatDoor
namespace Go.Proofs.YtkmbgkcpohchhaaGreatDoor
open Go.RowKit
set_option linter.unusedVariables false
def ordI (x : Nat) : Nat := [3, 17, 15, 13, 11, 9, 7, 5, 4, 6, 8, 10, 12, 14, 16, 18, 0, 1, 2].getD x 0
theorem ord_inv : ∀ x : Fin 19, dO (ordI x.val) = x.val ∧ ordI x.val < 19 := by decide
theorem inv_ord : ∀ i : Fin 19, ordI (dO i.val) = i.val := by decide
def hdL (Fl : List Int) (j : Nat) : List Int := (List.range 19).map fun x => if ordI x < j then ((lenF Fl x : Nat) : Int) else 0
theorem hdL_zero (Fl : List Int) : hdL Fl 0 = List.replicate 19 0 := by
  unfold hdL
  simp only [Nat.not_lt_zero, if_false]
  rfl
theorem hdL_len (Fl : List Int) (j : Nat) : (hdL Fl j).length = 19 := by simp [hdL]
theorem hdL_get (Fl : List Int) (j x : Nat) (h : x < (hdL Fl j).length) : (hdL Fl j)[x] = if ordI x < j then ((lenF Fl x : Nat) : Int) else 0 := by simp [hdL]
theorem hdL_set (Fl : List Int) (j : Nat) (hj : j < 19) : (hdL Fl j).set (dO j) ((lenF Fl (dO j) : Nat) : Int) = hdL Fl (j + 1) := by
  apply List.ext_getElem
  · rw [List.length_set, hdL_len, hdL_len]
  · intro x h1 h2
    rw [hdL_len] at h2
    have hi := inv_ord ⟨j, hj⟩
    have ho := ord_inv ⟨x, h2⟩
    simp only at hi ho
    rw [List.getElem_set, hdL_get, hdL_get]
    by_cases e : dO j = x
    · rw [if_pos e, e, if_pos (show ordI x < j + 1 by rw [← e, hi]; exact Nat.lt_succ_self j)]
    · rw [if_neg e]
      have hne : ordI x ≠ j := fun h => e (by rw [← h]; exact ho.1)
      by_cases c : ordI x < j
      · rw [if_pos c, if_pos (by omega)]
      · rw [if_neg c, if_neg (by omega)]
theorem hdL_all {Fl : List Int} (hC : IsCode Fl) (hl : Fl.length = 19) : hdL Fl (gvN Fl) = Fl := by
  apply List.ext_getElem
  · rw [hdL_len, hl]
  · intro x h1 h2
    rw [hl] at h2
    have ho := ord_inv ⟨x, h2⟩
    simp only at ho
    rw [hdL_get]
    have hx : ((lenF Fl x : Nat) : Int) = Fl[x]'(by omega) := by
      have := (hC.len x).2
      rw [← this]
      simp [List.getD, show x < Fl.length by omega]
    by_cases c : ordI x < gvN Fl
    · rw [if_pos c, hx]
    · rw [if_neg c]
      have := trim_zero (fun i => lenF Fl (dO i)) 4 19 (ordI x) (by unfold gvN at c; omega) ho.2
      simp only [ho.1] at this
      rw [← hx, this]
      rfl
theorem hdr_back {s : ByteArray} {lim : Nat} {last : Bool} {n d g : Nat} {Fl : List Int} (hg : g ≤ 19) (out : List UInt8) : ∀ (m j k : Nat), j + m = g → PcAt s k ((List.range m).map fun i => (lenF Fl (dO (j + i)), 3)) →
    Leads s lim (.go ⟨.hdr last n d g j (hdL Fl j), k, out⟩) (.go ⟨.hdr last n d g g (hdL Fl g), k + 3 * m, out⟩)
  | 0, j, k, e, _ => by
    obtain rfl : j = g := by omega
    exact Leads.refl _
  | m + 1, j, k, e, hp => by
    rw [List.range_succ_eq_map, List.map_cons, List.map_map] at hp
    have hs : step s lim ⟨.hdr last n d g j (hdL Fl j), k, out⟩ = .go ⟨.hdr last n d g (j + 1) (hdL Fl (j + 1)), k + 3, out⟩ := by
      rw [step_hdr]
      unfold stHdr
      rw [if_pos (by omega), num_back hp]
      simp only [Nat.add_zero]
      rw [show ordL.getD j 0 = dO j from rfl, hdL_set Fl j (by omega)]
    have := hdr_back (lim := lim) (last := last) (n := n) (d := d) (g := g) (Fl := Fl) (s := s) hg out m (j + 1) (k + 3) (by omega) (by
      have h := hp.2.2
      rw [show ((fun i => (lenF Fl (dO (j + i)), 3)) ∘ Nat.succ : Nat → Nat × Nat) = fun i => (lenF Fl (dO (j + 1 + i)), 3) from funext fun i => by show (lenF Fl (dO (j + (i + 1))), 3) = _; rw [show j + (i + 1) = j + 1 + i by omega]] at h
      exact h)
    rw [show k + 3 * (m + 1) = k + 3 + 3 * m by omega]
    exact ((Leads.refl _).then hs).trans this
theorem take_run {T : List Int} {v : Int} {m : Nat} : ∀ c, m + c ≤ T.length → (∀ i, i < c → T.getD (m + i) 0 = v) → T.take m ++ List.replicate c v = T.take (m + c)
  | 0, _, _ => by simp
  | c + 1, h, hv => by
    have ih := take_run (v := v) c (by omega) fun i hi => hv i (by omega)
    have h1 := hv c (by omega)
    rw [List.replicate_succ', ← List.append_assoc, ih, ← Nat.add_assoc, List.take_succ_eq_append_getElem (by omega)]
    congr 2
    rw [← h1]
    simp [List.getD, show m + c < T.length by omega]
theorem part_back {s : ByteArray} {lim : Nat} {last : Bool} {n d : Nat} {Fl T : List Int} (hC : IsCode Fl) (hT : T.length = n + d) (h15 : ∀ x ∈ T, 0 ≤ x ∧ x ≤ 15) {m k : Nat} (hm : m < T.length) (hx : 0 < lenF Fl (partS T m).1.idx) (out : List UInt8) (hp : PcAt s k (symP Fl (partS T m).1)) :
    step s lim ⟨.seq last n d Fl (T.take m), k, out⟩ = .go ⟨.seq last n d Fl (T.take (m + (partS T m).2)), k + pcK (symP Fl (partS T m).1), out⟩ := by
  obtain ⟨r1, r2, r3⟩ := runN_ok hm
  obtain ⟨o1, o2, _⟩ := partS_ok hm h15
  have hlen : (T.take m).length = m := by rw [List.length_take]; omega
  have hTm := h15 (T.getD m 0) (by simp [List.getD, hm])
  have hput : ∀ (v : Int) (c : Nat) (k : Nat), m + c ≤ T.length → (∀ i, i < c → T.getD (m + i) 0 = v) → stPut last n d Fl (T.take m) v c k out = .go ⟨.seq last n d Fl (T.take (m + c)), k, out⟩ := fun v c k h1 h2 => by
    unfold stPut
    rw [hlen, if_pos (by omega), take_run c h1 h2]
  rw [step_seq]
  unfold stSeq
  rw [hlen, if_pos (by omega)]
  obtain ⟨q, hq⟩ : ∃ q, partS T m = q := ⟨_, rfl⟩
  rw [hq] at hp hx o2 ⊢
  have hS := hq
  clear hq
  unfold partS at hS
  split at hS
  · rename_i c
    subst hS
    simp only at hp hx o2 ⊢
    rw [sym1_back hC hx hp, if_neg (by decide), if_neg (by decide), if_pos rfl, num_back hp.2.2]
    simp only
    rw [show 11 + (min (runN T m) 138 - 11) = min (runN T m) 138 by omega, hput 0 _ _ o2 fun i hi => (r3 i (by omega)).trans c.1]
    simp only [symP, pcK, Nat.add_zero, Nat.add_assoc]
  · split at hS
    · rename_i c
      subst hS
      simp only at hp hx o2 ⊢
      rw [sym1_back hC hx hp, if_neg (by decide), if_pos rfl, num_back hp.2.2]
      simp only
      rw [show 3 + (runN T m - 3) = runN T m by omega, hput 0 _ _ o2 fun i hi => (r3 i (by omega)).trans c.1]
      simp only [symP, pcK, Nat.add_zero, Nat.add_assoc]
    · split at hS
      · rename_i c
        subst hS
        simp only at hp hx o2 ⊢
        have hne : T.take m ≠ [] := fun h => by
          have := congrArg List.length h
          rw [hlen] at this
          simp at this
          omega
        rw [sym1_back hC hx hp, if_pos rfl, if_neg hne, num_back hp.2.2]
        simp only
        have hv : (T.take m).getD (m - 1) 0 = T.getD m 0 := by
          rw [c.1.2]
          simp [List.getD, show m - 1 < m by omega]
        rw [hv, show 3 + (min (runN T m) 6 - 3) = min (runN T m) 6 by omega, hput _ _ _ o2 fun i hi => r3 i (by omega)]
        simp only [symP, pcK, Nat.add_zero, Nat.add_assoc]
      · subst hS
        simp only at hp hx o2 ⊢
        rw [sym1_back hC hx hp, if_neg (by omega), if_neg (by omega), if_neg (by omega)]
        rw [hput _ _ _ o2 fun i hi => by
          obtain rfl : i = 0 := by omega
          rw [Nat.add_zero]
          omega]
        simp only [symP, pcK, Nat.add_zero]
end Go.Proofs.YtkmbgkcpohchhaaGreatDoor
namespace Go.Proofs.YtkmbgkcpohchhaaGreatDoor
open Go.RowKit
set_option linter.unusedVariables false
theorem seq_back {s : ByteArray} {lim : Nat} {last : Bool} {n d : Nat} {Fl T : List Int} (hC : IsCode Fl) (hT : T.length = n + d) (h15 : ∀ x ∈ T, 0 ≤ x ∧ x ≤ 15) (out : List UInt8) : ∀ (f m k : Nat), T.length - m ≤ f → m ≤ T.length → (∀ y ∈ partsL T f m, 0 < lenF Fl y.idx) → PcAt s k ((partsL T f m).flatMap (symP Fl)) →
    Leads s lim (.go ⟨.seq last n d Fl (T.take m), k, out⟩) (.go ⟨.seq last n d Fl T, k + pcK ((partsL T f m).flatMap (symP Fl)), out⟩)
  | 0, m, k, hf, hm, _, _ => by
    rw [List.take_of_length_le (by omega)]
    exact Leads.refl _
  | f + 1, m, k, hf, hm, hx, hp => by
    by_cases c : m < T.length
    · rw [partsL, if_pos c] at hx hp ⊢
      obtain ⟨o1, o2, _⟩ := partS_ok c h15
      rw [List.flatMap_cons] at hp ⊢
      obtain ⟨p1, p2⟩ := pcAt_app hp
      have h1 := part_back (lim := lim) (last := last) hC hT h15 c (hx _ (by simp)) out p1
      have h2 := seq_back (lim := lim) (last := last) hC hT h15 out f (m + (partS T m).2) _ (by omega) o2 (fun y hy => hx y (by simp [hy])) p2
      rw [pcK_app, ← Nat.add_assoc]
      exact ((Leads.refl _).then h1).trans h2
    · rw [partsL, if_neg c]
      rw [List.take_of_length_le (by omega)]
      exact Leads.refl _
theorem top_back {s : ByteArray} {lim k : Nat} {kind : Nat} {r : List (Nat × Nat)} (out : List UInt8) (hk : kind < 4) (hp : PcAt s k ((1 + 2 * kind, 3) :: r)) :
    stTop s lim k out = if kind = 0 then stStored s lim true (k + 3) out else if kind = 1 then .go ⟨.sym true fixL fixD, k + 3, out⟩ else if kind = 2 then stHead s true (k + 3) out else .bad 3 := by
  obtain ⟨h1, h2, _⟩ := hp
  simp only at h1 h2
  have h3 := bv_add s k 1 2
  have h4 := bv_lt s k 1
  have h5 := bv_lt s (k + 1) 2
  rw [show (2 : Nat) ^ 1 = 2 by rfl] at h3 h4
  rw [show (2 : Nat) ^ 2 = 4 by rfl] at h5
  rw [show 1 + 2 = 3 by rfl, h2] at h3
  have e1 : bv s k 1 = 1 := by omega
  have e2 : bv s (k + 1) 2 = kind := by omega
  unfold stTop
  rw [num_ok (by omega), num_ok (by omega), e1, e2]
  rfl
theorem dyn_back {s : ByteArray} {lim k : Nat} {L D : List Int} {ts : List TokR} {out res : List UInt8} (hL : IsCode L) (hD : IsCode D) (h257 : 257 ≤ L.length) (h286 : L.length ≤ 286) (h1 : 1 ≤ D.length) (h30 : D.length ≤ 30)
    (h256 : 0 < lenF L 256) (hts : ∀ t ∈ ts, t.lit < 256 ∧ TokHas L D t) (he : expGo lim ts out = (0, res)) (hp : PcAt s k ((5, 3) :: (hdrP L D ++ toksP L D ts))) :
    Leads s lim (.go ⟨.top, k, out⟩) (.fin (k + pcK ((5, 3) :: (hdrP L D ++ toksP L D ts))) res) := by
  have h15 : ∀ x ∈ L ++ D, 0 ≤ x ∧ x ≤ 15 := fun x hx => by
    rcases List.mem_append.1 hx with hx | hx
    · exact hL.range x hx
    · exact hD.range x hx
  have htop := top_back (lim := lim) (kind := 2) out (by decide) hp
  rw [if_neg (by decide), if_neg (by decide), if_pos rfl] at htop
  obtain ⟨p1, p2⟩ := pcAt_app hp.2.2
  simp only at p1 p2
  unfold hdrP at p1
  obtain ⟨p3, p4⟩ := pcAt_app p1
  obtain ⟨p5, p6⟩ := pcAt_app p3
  have hA : ∀ y ∈ allP (L ++ D), SymOk y := partsL_ok h15 _ _
  have hFc := IsCode.of_check (fstL_check (allP (L ++ D)))
  have hpos : ∀ y ∈ allP (L ++ D), 0 < lenF (fstL (allP (L ++ D))) y.idx := fun y hy => by
    have hi := (hA y hy).1
    have hm := many_pos (f := cntA (allP (L ++ D))) (n := 19) (most := 7) (by decide) (by decide) (by decide) hi (cntA_pos hy)
    unfold lenF fstL bestL
    rw [show bestN (natL (cntA (allP (L ++ D))) 19) 19 7 19 = 19 from fstLn_eq _, natL_get _ _ _ hi]
    omega
  have hg4 : 4 ≤ gvN (fstL (allP (L ++ D))) := trim_ge _ 4 19 (by decide)
  have hg19 : gvN (fstL (allP (L ++ D))) ≤ 19 := trim_le _ 4 19
  have hhead : stHead s true (k + 3) out = .go ⟨.hdr true L.length D.length (gvN (fstL (allP (L ++ D)))) 0 (List.replicate 19 0), k + 3 + 14, out⟩ := by
    unfold stHead
    unfold hdr3 at p5
    rw [num_back p5]
    simp only
    rw [num_back p5.2.2]
    simp only
    rw [num_back p5.2.2.2.2]
    simp only
    rw [if_pos (by omega), show L.length - 257 + 257 = L.length by omega, show D.length - 1 + 1 = D.length by omega, show gvN (fstL (allP (L ++ D))) - 4 + 4 = gvN (fstL (allP (L ++ D))) by omega]
  have h3 : pcK (hdr3 L D) = 14 := rfl
  rw [h3] at p6
  have hh := hdr_back (s := s) (lim := lim) (last := true) (n := L.length) (d := D.length) (Fl := fstL (allP (L ++ D))) hg19 out (gvN (fstL (allP (L ++ D)))) 0 (k + 3 + 14) (Nat.zero_add _) (by
    unfold gvP at p6
    simpa only [Nat.zero_add] using p6)
  rw [hdL_zero, hdL_all hFc (fstL_len _)] at hh
  have hTl : (L ++ D).length = L.length + D.length := List.length_append
  have hseq0 : step s lim ⟨.hdr true L.length D.length (gvN (fstL (allP (L ++ D)))) (gvN (fstL (allP (L ++ D)))) (fstL (allP (L ++ D))), k + 3 + 14 + 3 * gvN (fstL (allP (L ++ D))), out⟩ = .go ⟨.seq true L.length D.length (fstL (allP (L ++ D))) ((L ++ D).take 0), k + 3 + 14 + 3 * gvN (fstL (allP (L ++ D))), out⟩ := by
    rw [step_hdr]
    unfold stHdr
    rw [if_neg (Nat.lt_irrefl _), if_pos (fstL_check _)]
    rfl
  rw [pcK_app, h3, gvP_len] at p4
  rw [show k + 3 + (14 + 3 * gvN (fstL (allP (L ++ D)))) = k + 3 + 14 + 3 * gvN (fstL (allP (L ++ D))) by omega] at p4
  have hs := seq_back (s := s) (lim := lim) (last := true) hFc hTl h15 out (L ++ D).length 0 (k + 3 + 14 + 3 * gvN (fstL (allP (L ++ D)))) (by omega) (Nat.zero_le _) hpos p4
  have hend : step s lim ⟨.seq true L.length D.length (fstL (allP (L ++ D))) (L ++ D), k + 3 + 14 + 3 * gvN (fstL (allP (L ++ D))) + pcK ((partsL (L ++ D) (L ++ D).length 0).flatMap (symP (fstL (allP (L ++ D))))), out⟩ = .go ⟨.sym true L D, k + 3 + 14 + 3 * gvN (fstL (allP (L ++ D))) + pcK ((partsL (L ++ D) (L ++ D).length 0).flatMap (symP (fstL (allP (L ++ D))))), out⟩ := by
    rw [step_seq]
    unfold stSeq
    have h256' : ¬ (L ++ D).getD 256 0 = 0 := by
      have e : (L ++ D).getD 256 0 = L.getD 256 0 := by simp [List.getD, List.getElem?_append_left (show 256 < L.length by omega)]
      rw [e, (hL.len 256).2]
      omega
    rw [if_neg (by omega), if_neg h256', List.take_left' rfl, List.drop_left' rfl, if_pos hL.check, if_pos hD.check]
  have hK : pcK (hdrP L D) = 14 + 3 * gvN (fstL (allP (L ++ D))) + pcK ((partsL (L ++ D) (L ++ D).length 0).flatMap (symP (fstL (allP (L ++ D))))) := by
    unfold hdrP
    rw [pcK_app, pcK_app, h3, gvP_len]
    rfl
  rw [hK] at p2
  have htk := toks_back (s := s) (lim := lim) hL hD h256 ts _ out res he hts p2
  have e0 : k + pcK ((5, 3) :: (hdrP L D ++ toksP L D ts)) = k + 3 + (14 + 3 * gvN (fstL (allP (L ++ D))) + pcK ((partsL (L ++ D) (L ++ D).length 0).flatMap (symP (fstL (allP (L ++ D)))))) + pcK (toksP L D ts) := by
    rw [pcK, pcK_app, hK]
    simp only
    omega
  rw [e0]
  refine ((Leads.refl _).then ((step_top s lim k out).trans htop)).trans ?_
  rw [hhead]
  refine hh.trans (((Leads.refl _).then hseq0).trans (hs.trans (((Leads.refl _).then hend).trans ?_)))
  rw [show k + 3 + 14 + 3 * gvN (fstL (allP (L ++ D))) + pcK ((partsL (L ++ D) (L ++ D).length 0).flatMap (symP (fstL (allP (L ++ D))))) = k + 3 + (14 + 3 * gvN (fstL (allP (L ++ D))) + pcK ((partsL (L ++ D) (L ++ D).length 0).flatMap (symP (fstL (allP (L ++ D)))))) by omega]
  exact htk
theorem own_has {ts : List TokR} (hok : costOk ts = true) (hl : ∀ t ∈ ts, t.lit < 256) : 0 < lenF (ownL ts) 256 ∧ ∀ t ∈ ts, TokHas (ownL ts) (ownD ts) t := by
  have key : ∀ i, i < 286 → 0 < litO ts i → 0 < lenF (ownL ts) i := fun i hi h => by
    have hb := best_in (least := 257) (most := 15) (n := 286) (by decide) (by decide) (by decide) hi h
    have hm := many_pos (most := 15) (n := 286) (by decide) (by decide) (by decide) hi h
    unfold lenF ownL bestL
    rw [natL_get _ _ _ hb]
    omega
  have keyD : ∀ i, i < 30 → 0 < dstO ts i → 0 < lenF (ownD ts) i := fun i hi h => by
    have hb := best_in (least := 1) (most := 15) (n := 30) (by decide) (by decide) (by decide) hi h
    have hm := many_pos (most := 15) (n := 30) (by decide) (by decide) (by decide) hi h
    unfold lenF ownD bestL
    rw [natL_get _ _ _ hb]
    omega
  refine ⟨key 256 (by decide) (by unfold litO; rw [if_pos rfl]; omega), fun t ht => ⟨?_, fun hb => ?_⟩⟩
  · exact key _ (litY_ok (List.all_eq_true.1 hok t ht) (hl t ht)).1 (litO_pos ht)
  · have hm : isM t = true := by
      have := List.all_eq_true.1 hok t ht
      simpa [tokOk, hb] using this
    exact keyD _ (dstY_ok hm).1 (dstO_pos ht hb)
end Go.Proofs.YtkmbgkcpohchhaaGreatDoor
namespace Go.Proofs.YtkmbgkcpohchhaaGreatDoor
open Go.RowKit
set_option linter.unusedVariables false
theorem leN_str (N d : Nat) (h : N < 2 ^ (8 * d)) : leN (strN N d).data.toList = N := by
  have key : ∀ d N, leN ((List.range d).map fun j => UInt8.ofNat (hiN N j % 256)) = N % 2 ^ (8 * d) := by
    intro d
    induction d with
    | zero => intro N; simp [leN, Nat.mod_one]
    | succ d ih =>
      intro N
      rw [List.range_succ, List.map_append, leN_append, ih]
      simp only [List.map_cons, List.map_nil, List.length_map, List.length_range, leN]
      have e : (UInt8.ofNat (hiN N d % 256)).toNat = N / 2 ^ (8 * d) % 2 ^ 8 := by
        simp [hiN]
      rw [e, Nat.mul_add 8 d 1, mod_split]
      simp
  have := key d N
  rw [Nat.mod_eq_of_lt h] at this
  simpa [strN] using this

def Fit (P : List (Nat × Nat)) : Prop := ∀ p ∈ P, p.1 < 2 ^ p.2
theorem Fit.app {a b : List (Nat × Nat)} (h : Fit a) (k : Fit b) : Fit (a ++ b) := fun p hp => by
  rcases List.mem_append.1 hp with hp | hp
  · exact h p hp
  · exact k p hp
theorem Fit.cons {p : Nat × Nat} {r : List (Nat × Nat)} (h : p.1 < 2 ^ p.2) (k : Fit r) : Fit (p :: r) := fun q hq => by
  rcases List.mem_cons.1 hq with rfl | hq
  · exact h
  · exact k q hq
theorem Fit.nil : Fit [] := fun p hp => by cases hp
theorem pcN_lt : ∀ P : List (Nat × Nat), Fit P → pcN P < 2 ^ pcK P
  | [], _ => by simp [pcN, pcK]
  | p :: r, h => by
    have h1 := h p (by simp)
    have h2 := pcN_lt r fun q hq => h q (by simp [hq])
    rw [pcN, pcK, Nat.pow_add]
    have h3 : 2 ^ p.2 * (pcN r + 1) ≤ 2 ^ p.2 * 2 ^ pcK r := Nat.mul_le_mul_left _ h2
    rw [Nat.mul_add, Nat.mul_one] at h3
    omega
theorem outS_size (P : List (Nat × Nat)) : (outS P).size = (pcK P + 7) / 8 := by unfold outS; exact strN_size _ _
theorem outS_leN {P : List (Nat × Nat)} (h : Fit P) : leN (outS P).data.toList = pcN P := by
  unfold outS
  exact leN_str _ _ (Nat.lt_of_lt_of_le (pcN_lt P h) (Nat.pow_le_pow_right (by decide) (by omega)))
theorem append_list (a b : ByteArray) : (a ++ b).data.toList = a.data.toList ++ b.data.toList := by simp
theorem outS_at {P : List (Nat × Nat)} (h : Fit P) (more : ByteArray) : PcAt (outS P ++ more) 0 P := by
  have hz : (outS P ++ more).size = (outS P).size + more.size := ByteArray.size_append
  have hs := outS_size P
  refine pcAt_of (M := leN (outS P ++ more).data.toList) rfl P 0 h ?_ (by omega)
  rw [append_list, leN_append, outS_leN h, Nat.pow_zero, Nat.div_one]
  have hl : (outS P).data.toList.length = (pcK P + 7) / 8 := by rw [← hs]; simp
  rw [hl]
  obtain ⟨e, he⟩ : ∃ e, 8 * ((pcK P + 7) / 8) = pcK P + e := ⟨8 * ((pcK P + 7) / 8) - pcK P, by omega⟩
  rw [he, Nat.pow_add, Nat.mul_assoc, Nat.add_mul_mod_self_left, Nat.mod_eq_of_lt (pcN_lt P h)]
theorem symP_fit (l : List Int) {s : SymT} (h : s.more < 2 ^ s.ext) : Fit (symP l s) := Fit.cons (revB_lt _ _) (Fit.cons h Fit.nil)
theorem flat_fit {α : Type} (f : α → List (Nat × Nat)) : ∀ l : List α, (∀ x ∈ l, Fit (f x)) → Fit (l.flatMap f)
  | [], _ => Fit.nil
  | x :: r, h => by
    rw [List.flatMap_cons]
    exact (h x (by simp)).app (flat_fit f r fun y hy => h y (by simp [hy]))
theorem toksP_fit (L D : List Int) {ts : List TokR} (hok : costOk ts = true) (hl : ∀ t ∈ ts, t.lit < 256) : Fit (toksP L D ts) := by
  unfold toksP
  refine (flat_fit _ ts fun t ht => ?_).app (symP_fit L (by decide))
  have h1 := List.all_eq_true.1 hok t ht
  unfold tokP
  refine (symP_fit L (litY_ok h1 (hl t ht)).2.2).app ?_
  cases hb : isB t with
  | true => rw [if_pos rfl]; exact Fit.nil
  | false =>
    rw [if_neg (by simp)]
    have hm : isM t = true := by simpa [tokOk, hb] using h1
    exact symP_fit D (dstY_ok hm).2.2
theorem hdrP_fit {L D : List Int} (hL : IsCode L) (hD : IsCode D) (h286 : L.length ≤ 286) (h30 : D.length ≤ 30) : Fit (hdrP L D) := by
  have h15 : ∀ x ∈ L ++ D, 0 ≤ x ∧ x ≤ 15 := fun x hx => by
    rcases List.mem_append.1 hx with hx | hx
    · exact hL.range x hx
    · exact hD.range x hx
  have hg19 : gvN (fstL (allP (L ++ D))) ≤ 19 := trim_le _ 4 19
  unfold hdrP hdr3
  refine ((Fit.cons (by show L.length - 257 < 32; omega) (Fit.cons (by show D.length - 1 < 32; omega) (Fit.cons (by show gvN (fstL (allP (L ++ D))) - 4 < 16; omega) Fit.nil))).app ?_).app (flat_fit _ _ fun y hy => symP_fit _ (partsL_ok h15 _ _ y hy).2.2)
  intro p hp
  unfold gvP at hp
  obtain ⟨i, _, rfl⟩ := List.mem_map.1 hp
  have := fst_7 (allP (L ++ D)) (dO i)
  show lenF (fstL (allP (L ++ D))) (dO i) < 8
  omega
theorem fixP_fit {ts : List TokR} (hok : costOk ts = true) (hl : ∀ t ∈ ts, t.lit < 256) : Fit (fixP ts) := Fit.cons (by decide) (toksP_fit _ _ hok hl)
theorem dynP_fit {ts : List TokR} (hok : costOk ts = true) (hl : ∀ t ∈ ts, t.lit < 256) : Fit (dynP ts) :=
  Fit.cons (by decide) ((hdrP_fit (IsCode.of_check (ownL_check ts)) (IsCode.of_check (ownD_check ts)) (by rw [ownL_len]; exact (ownLn_ge ts).2) (by rw [ownD_len]; exact (ownDn_ge ts).2)).app (toksP_fit _ _ hok hl))
set_option maxRecDepth 100000 in
theorem fixL_eq : fixL = fixLL := by decide +kernel
theorem fixD_eq : fixD = fixDD := by decide +kernel
set_option maxRecDepth 100000 in
theorem fixLL_pos : ∀ i : Fin 288, 0 < lenF fixLL i.val := by decide +kernel
theorem fixDD_pos : ∀ i : Fin 32, 0 < lenF fixDD i.val := by decide +kernel
theorem fix_has {ts : List TokR} (hok : costOk ts = true) (hl : ∀ t ∈ ts, t.lit < 256) : ∀ t ∈ ts, t.lit < 256 ∧ TokHas fixLL fixDD t := fun t ht => by
  have h1 := List.all_eq_true.1 hok t ht
  refine ⟨hl t ht, fixLL_pos ⟨(litY t).idx, by have := (litY_ok h1 (hl t ht)).1; omega⟩, fun hb => ?_⟩
  have hm : isM t = true := by simpa [tokOk, hb] using h1
  exact fixDD_pos ⟨(dstY t).idx, by have := (dstY_ok hm).1; omega⟩
theorem fix_back {s : ByteArray} {lim k : Nat} {ts : List TokR} {out res : List UInt8} (hok : costOk ts = true) (hl : ∀ t ∈ ts, t.lit < 256) (he : expGo lim ts out = (0, res)) (hp : PcAt s k (fixP ts)) :
    Leads s lim (.go ⟨.top, k, out⟩) (.fin (k + pcK (fixP ts)) res) := by
  unfold fixP at hp ⊢
  have htop := top_back (lim := lim) (kind := 1) out (by decide) hp
  rw [if_neg (by decide), if_pos rfl, fixL_eq, fixD_eq] at htop
  have htk := toks_back (s := s) (lim := lim) (IsCode.of_check fixLL_check) (IsCode.of_check fixDD_check) (fixLL_pos ⟨256, by decide⟩) ts (k + 3) out res he (fix_has hok hl) hp.2.2
  rw [pcK, ← Nat.add_assoc]
  exact ((Leads.refl _).then ((step_top s lim k out).trans htop)).trans htk
theorem fixed_read {lim : Nat} {ts : List TokR} {res : List UInt8} (hok : costOk ts = true) (hl : ∀ t ∈ ts, t.lit < 256) (he : expGo lim ts [] = (0, res)) (more : ByteArray) :
    Leads (outS (fixP ts) ++ more) lim (.go ⟨.top, 0, []⟩) (.fin (pcK (fixP ts)) res) := by
  have := fix_back hok hl he (outS_at (fixP_fit hok hl) more)
  rwa [Nat.zero_add] at this
theorem dynamic_read {lim : Nat} {ts : List TokR} {res : List UInt8} (hok : costOk ts = true) (hl : ∀ t ∈ ts, t.lit < 256) (he : expGo lim ts [] = (0, res)) (more : ByteArray) :
    Leads (outS (dynP ts) ++ more) lim (.go ⟨.top, 0, []⟩) (.fin (pcK (dynP ts)) res) := by
  obtain ⟨h256, hh⟩ := own_has hok hl
  have := dyn_back (IsCode.of_check (ownL_check ts)) (IsCode.of_check (ownD_check ts)) (by rw [ownL_len]; exact (ownLn_ge ts).1) (by rw [ownL_len]; exact (ownLn_ge ts).2) (by rw [ownD_len]; exact (ownDn_ge ts).1) (by rw [ownD_len]; exact (ownDn_ge ts).2) h256 (fun t ht => ⟨hl t ht, hh t ht⟩) he (outS_at (dynP_fit hok hl) more)
  rwa [Nat.zero_add] at this
theorem dyn_first {ts : List TokR} (hok : costOk ts = true) (hl : ∀ t ∈ ts, t.lit < 256) : ∃ h : 0 < (outS (dynP ts)).size, ((outS (dynP ts))[0]'h).toNat % 8 = 5 := by
  have hs := outS_size (dynP ts)
  have h3 : 3 ≤ pcK (dynP ts) := by unfold dynP; rw [pcK]; show 3 ≤ 3 + _; omega
  have h0 : 0 < (outS (dynP ts)).size := by omega
  refine ⟨h0, ?_⟩
  have hb := bv_byte (outS (dynP ts)) 0 h0
  have hp := (outS_at (dynP_fit hok hl) ⟨#[]⟩)
  have he : outS (dynP ts) ++ ⟨#[]⟩ = outS (dynP ts) := by
    apply ByteArray.ext
    simp
  rw [he] at hp
  have h5 : bv (outS (dynP ts)) 0 3 = 5 := hp.2.1
  have h8 := bv_add (outS (dynP ts)) 0 3 5
  rw [h5] at h8
  rw [← hb]
  rw [show 8 * 0 = 0 by rfl, show (8 : Nat) = 3 + 5 by rfl, h8]
  omega
end Go.Proofs.YtkmbgkcpohchhaaGreatDoor
namespace Go.Proofs.YtkmbgkcpohchhaaGreatDoor
open Go.RowKit
set_option linter.unusedVariables false
theorem exp_grows {lim : Int} : ∀ (ts : List TokR) (out res : List UInt8), expGo lim ts out = (0, res) → out.length ≤ res.length
  | [], out, res, h => by
    rw [expGo] at h
    have : out = res := congrArg Prod.snd h
    rw [this]
    exact Nat.le_refl _
  | t :: r, out, res, h => by
    rw [expGo] at h
    split at h
    · rename_i c
      have h1 := exp_grows r _ res h
      have h2 := (tokX_len c).1
      omega
    · rename_i c
      exact absurd (congrArg Prod.fst h) c
theorem exp_lim {lim lim' : Int} : ∀ (ts : List TokR) (out res : List UInt8), expGo lim ts out = (0, res) → (res.length : Int) ≤ lim' → expGo lim' ts out = (0, res)
  | [], out, res, h, _ => h
  | t :: r, out, res, h, hl => by
    rw [expGo] at h
    split at h
    · rename_i c
      have h1 := exp_grows r _ res h
      have h2 := (tokX_len c).1
      have hE : tokE t out.length lim' = 0 := by
        unfold tokE at c ⊢
        cases hb : isB t with
        | true =>
          rw [hb, if_pos rfl] at h2
          rw [if_pos rfl, if_neg (by omega)]
        | false =>
          rw [hb, if_neg (by simp)] at h2
          rw [hb, if_neg (by simp)] at c
          rw [if_neg (by simp)]
          cases hm : isM t with
          | true =>
            rw [hm, if_pos rfl] at c
            rw [if_pos rfl]
            obtain ⟨_, _, b3, _⟩ := isM_iff.1 hm
            split at c
            · cases c
            · rename_i c1
              rw [if_neg c1, if_neg (by omega)]
          | false => rw [hm] at c; simp at c
      rw [expGo, if_pos hE]
      exact exp_lim r _ res h hl
    · rename_i c
      exact absurd (congrArg Prod.fst h) c
end Go.Proofs.YtkmbgkcpohchhaaGreatDoor
namespace Go.Proofs.YtkmbgkcpohchhaaGreatDoor
set_option linter.unusedVariables false
def hd5 (k : Nat) : ByteArray := ⟨#[0, UInt8.ofNat k, UInt8.ofNat (k / 256), UInt8.ofNat (255 - k % 256), UInt8.ofNat (255 - k / 256)]⟩
theorem bytes16 (t : ByteArray) (i : Nat) (h : i + 1 < t.size) : bv t (8 * i) 16 = t[i].toNat + 256 * t[i + 1].toNat := by
  rw [show (16 : Nat) = 8 + 8 by rfl, bv_add, bv_byte t i (by omega), show 8 * i + 8 = 8 * (i + 1) by omega, bv_byte t (i + 1) h]
end Go.Proofs.YtkmbgkcpohchhaaGreatDoor

/- Plain: RIFF files, their chunks, and sounds. No program in it. -/
import Derived.Test.YtgkgimfdbkpbdaaDoorNumB
namespace Go.Proofs.YtgkgimfdbkpbdaaDoor
open Go.RowKit
set_option linter.unusedVariables false
structure ChkR where
  typ : ByteArray
  dat : ByteArray
def okN (n : Nat) : Bool := decide (32 ≤ n) && decide (n ≤ 126)
/-- A type. -/
def typB (s : ByteArray) : Bool := (s.data.toList.all fun c => okN c.toNat) && decide (s.size = 4)
theorem typ_all {s : ByteArray} (h : ∀ i, i < s.size → okN (bt s i) = true) : typB s = decide (s.size = 4) := by
  unfold typB
  have : (s.data.toList.all fun c => okN c.toNat) = true := by
    rw [List.all_eq_true]
    intro c hc
    obtain ⟨i, hi, rfl⟩ := List.getElem_of_mem hc
    have hi' : i < s.size := by simpa using hi
    have := h i hi'
    rw [bt_eq s i hi'] at this
    exact this
  rw [this, Bool.true_and]
theorem typ_not {s : ByteArray} {i : Nat} (hi : i < s.size) (h : okN (bt s i) = false) : typB s = false := by
  unfold typB
  have : (s.data.toList.all fun c => okN c.toNat) = false := by
    rw [List.all_eq_false]
    refine ⟨s[i], ?_, ?_⟩
    · have : s[i] = s.data.toList[i]'(by simpa using hi) := by simp [ByteArray.getElem_eq_getElem_data]
      rw [this]
      exact List.getElem_mem _
    · rw [bt_eq s i hi] at h
      simp [h]
  rw [this, Bool.false_and]
theorem typ_size {s : ByteArray} (h : typB s = true) : s.size = 4 := by
  unfold typB at h
  rw [Bool.and_eq_true] at h
  exact of_decide_eq_true h.2
def pad (n : Nat) : Nat := n + n % 2
def num4 (s : ByteArray) (p : Nat) : Nat := numAt s p 4 false
theorem num4_lt (s : ByteArray) (p : Nat) : num4 s p < 4294967296 := num_lt s p 4 false
/-- The chunk that begins at p: what is wrong with it, the chunk, what is behind it. -/
def chkE (s : ByteArray) (p : Nat) : Int :=
  if s.size < p + 8 then 2 else if typB (s.extract p (p + 4)) = false then 3
  else if s.size < p + 8 + pad (num4 s (p + 4)) then 2
  else if num4 s (p + 4) % 2 = 1 ∧ bt s (p + 8 + num4 s (p + 4)) ≠ 0 then 3 else 0
def chkC (s : ByteArray) (p : Nat) : ChkR := ⟨s.extract p (p + 4), s.extract (p + 8) (p + 8 + num4 s (p + 4))⟩
def chkN (s : ByteArray) (p : Nat) : Nat := p + 8 + pad (num4 s (p + 4))
theorem chkE_0 {s : ByteArray} {p : Nat} (h : chkE s p = 0) : p + 8 ≤ s.size ∧ typB (s.extract p (p + 4)) = true ∧ chkN s p ≤ s.size := by
  unfold chkE at h
  unfold chkN
  by_cases h1 : s.size < p + 8
  · rw [if_pos h1] at h; cases h
  rw [if_neg h1] at h
  by_cases h2 : typB (s.extract p (p + 4)) = false
  · rw [if_pos h2] at h; cases h
  rw [if_neg h2] at h
  by_cases h3 : s.size < p + 8 + pad (num4 s (p + 4))
  · rw [if_pos h3] at h; cases h
  exact ⟨by omega, by simpa using h2, by omega⟩
def splGo (s : ByteArray) : Nat → Nat → List ChkR → Int × List ChkR
  | 0, _, acc => (0, acc)
  | f + 1, p, acc => if s.size ≤ p then (0, acc) else if chkE s p ≠ 0 then (chkE s p, []) else splGo s f (chkN s p) (acc ++ [chkC s p])
def riffT : ByteArray := ⟨#[82, 73, 70, 70]⟩
/-- What is wrong with the first twelve bytes. -/
def headE (s : ByteArray) : Int :=
  if s.size < 12 then 2 else if s.extract 0 4 ≠ riffT ∨ typB (s.extract 8 12) = false then 3
  else if s.size - 8 < num4 s 4 then 2 else if num4 s 4 < s.size - 8 then 3 else 0
def splitP (s : ByteArray) : ByteArray × List ChkR × Int :=
  if headE s ≠ 0 then (⟨#[]⟩, [], headE s)
  else if (splGo s s.size 12 []).1 ≠ 0 then (⟨#[]⟩, [], (splGo s s.size 12 []).1)
  else (s.extract 8 12, (splGo s s.size 12 []).2, 0)
/-! Joining. -/
def oddT (n : Nat) : ByteArray := if n % 2 = 1 then ⟨#[0]⟩ else ⟨#[]⟩
def chkT (c : ChkR) : ByteArray := c.typ ++ bytesS c.dat.size 4 false ++ c.dat ++ oddT c.dat.size
def bodyT : List ChkR → ByteArray
  | [] => ⟨#[]⟩
  | c :: r => chkT c ++ bodyT r
def sumP : List ChkR → Nat
  | [] => 0
  | c :: r => 8 + pad c.dat.size + sumP r
theorem sumP_snoc (l : List ChkR) (c : ChkR) : sumP (l ++ [c]) = sumP l + (8 + pad c.dat.size) := by
  induction l with
  | nil => simp [sumP]
  | cons x r ih => rw [List.cons_append, sumP, ih, sumP]; omega
theorem sumP_take {l : List ChkR} {k : Nat} (hk : k < l.length) : sumP (l.take (k + 1)) = sumP (l.take k) + (8 + pad l[k].dat.size) := by
  rw [List.take_succ_eq_append_getElem hk, sumP_snoc]
theorem sumP_le {l : List ChkR} {m : Nat} (h : ∀ c ∈ l, c.dat.size ≤ m) : sumP l ≤ l.length * (m + 9) := by
  induction l with
  | nil => simp [sumP]
  | cons c r ih =>
    have h1 := h c (by simp)
    have h2 := ih fun x hx => h x (by simp [hx])
    rw [sumP, List.length_cons, Nat.succ_mul]
    unfold pad
    omega
theorem nil_app (s : ByteArray) : (⟨#[]⟩ : ByteArray) ++ s = s := ba_ext (by simp)
theorem app_nil (s : ByteArray) : s ++ (⟨#[]⟩ : ByteArray) = s := ba_ext (by simp)
theorem app_as (a b c : ByteArray) : a ++ b ++ c = a ++ (b ++ c) := ba_ext (by simp)
theorem bodyT_app (l m : List ChkR) : bodyT (l ++ m) = bodyT l ++ bodyT m := by
  induction l with
  | nil => rw [List.nil_append, bodyT, nil_app]
  | cons c r ih => rw [List.cons_append, bodyT, bodyT, ih, app_as]
theorem bodyT_take {l : List ChkR} {k : Nat} (hk : k < l.length) : bodyT (l.take (k + 1)) = bodyT (l.take k) ++ chkT l[k] := by
  rw [List.take_succ_eq_append_getElem hk, bodyT_app, bodyT, bodyT, app_nil]
theorem odd_size (n : Nat) : (oddT n).size = n % 2 := by
  unfold oddT
  split
  · rename_i h; rw [h]; rfl
  · have : n % 2 = 0 := by omega
    rw [this]; rfl
theorem chkT_size (c : ChkR) : (chkT c).size = c.typ.size + 4 + pad c.dat.size := by
  unfold chkT pad
  rw [ByteArray.size_append, ByteArray.size_append, ByteArray.size_append, odd_size, bytesS_size]
  omega
def AllT (l : List ChkR) : Prop := ∀ c ∈ l, typB c.typ = true
theorem bodyT_size {l : List ChkR} (h : AllT l) : (bodyT l).size = sumP l := by
  induction l with
  | nil => rfl
  | cons c r ih =>
    rw [bodyT, sumP, ByteArray.size_append, chkT_size, typ_size (h c (by simp)), ih fun x hx => h x (by simp [hx])]
def joinT (form : ByteArray) (l : List ChkR) : ByteArray := riffT ++ bytesS (4 + sumP l) 4 false ++ form ++ bodyT l
theorem joinT_size {form : ByteArray} {l : List ChkR} (hf : typB form = true) (h : AllT l) : (joinT form l).size = 12 + sumP l := by
  unfold joinT
  rw [ByteArray.size_append, ByteArray.size_append, ByteArray.size_append, bytesS_size, typ_size hf, bodyT_size h]
  have : riffT.size = 4 := rfl
  omega
def joinB (form : ByteArray) (l : List ChkR) : Bool := typB form && l.all fun c => typB c.typ
theorem joinB_all {form : ByteArray} {l : List ChkR} (h : joinB form l = true) : typB form = true ∧ AllT l := by
  unfold joinB at h
  rw [Bool.and_eq_true, List.all_eq_true] at h
  exact h
def joinP (form : ByteArray) (l : List ChkR) : ByteArray × Int := if joinB form l then (joinT form l, 0) else (⟨#[]⟩, 1)
theorem chunk_back {A : ByteArray} {c : ChkR} {R s : ByteArray} (hs : s = A ++ (chkT c ++ R)) (ht : typB c.typ = true) (hn : c.dat.size < 4294967296) : chkE s A.size = 0 ∧ chkC s A.size = c ∧ chkN s A.size = A.size + (chkT c).size := by
  have h4 := typ_size ht
  have e1 : s = A ++ c.typ ++ (bytesS c.dat.size 4 false ++ c.dat ++ oddT c.dat.size ++ R) := by rw [hs, chkT]; simp only [app_as]
  have e2 : s = (A ++ c.typ) ++ bytesS c.dat.size 4 false ++ (c.dat ++ oddT c.dat.size ++ R) := by rw [hs, chkT]; simp only [app_as]
  have e3 : s = (A ++ c.typ ++ bytesS c.dat.size 4 false) ++ c.dat ++ (oddT c.dat.size ++ R) := by rw [hs, chkT]; simp only [app_as]
  have e4 : s = (A ++ c.typ ++ bytesS c.dat.size 4 false ++ c.dat) ++ (oddT c.dat.size ++ R) := by rw [hs, chkT]; simp only [app_as]
  have z2 : (A ++ c.typ).size = A.size + 4 := by rw [ByteArray.size_append, h4]
  have z3 : (A ++ c.typ ++ bytesS c.dat.size 4 false).size = A.size + 8 := by rw [ByteArray.size_append, z2, bytesS_size]
  have z4 : (A ++ c.typ ++ bytesS c.dat.size 4 false ++ c.dat).size = A.size + 8 + c.dat.size := by rw [ByteArray.size_append, z3]
  have t1 : s.extract A.size (A.size + 4) = c.typ := by rw [e1]; exact ext_mid _ _ _ _ _ rfl (by rw [h4])
  have t2 : num4 s (A.size + 4) = c.dat.size := by
    unfold num4
    rw [e2, ← z2]
    exact num_back _ _ _ _ _ (Nat.div_eq_of_lt (by simpa using hn))
  have t3 : s.extract (A.size + 8) (A.size + 8 + c.dat.size) = c.dat := by rw [e3]; exact ext_mid _ _ _ _ _ z3.symm (by rw [z3])
  have zs : s.size = A.size + (8 + pad c.dat.size) + R.size := by
    rw [hs, ByteArray.size_append, ByteArray.size_append, chkT_size, h4]; omega
  have t4 : c.dat.size % 2 = 1 → bt s (A.size + 8 + c.dat.size) = 0 := fun ho => by
    have ho1 : (oddT c.dat.size).size = 1 := by rw [odd_size, ho]
    rw [e4, ← z4]
    have := bt_append_right (A ++ c.typ ++ bytesS c.dat.size 4 false ++ c.dat) (oddT c.dat.size ++ R) 0 (by rw [ByteArray.size_append]; omega)
    rw [Nat.add_zero] at this
    rw [this, bt_append_left _ _ _ (by omega)]
    unfold oddT
    rw [if_pos ho]
    rfl
  refine ⟨?_, ?_, ?_⟩
  · unfold chkE
    rw [t1, t2, ht, if_neg (by omega), if_neg (by decide), if_neg (by omega), if_neg]
    intro ⟨h1, h2⟩
    exact h2 (t4 h1)
  · unfold chkC
    rw [t1, t2, t3]
  · unfold chkN
    rw [t2, chkT_size, h4]; omega
theorem spl_back : ∀ (l : List ChkR) (A s : ByteArray) (acc : List ChkR) (f : Nat), s = A ++ bodyT l → AllT l → (∀ c ∈ l, c.dat.size < 4294967296) → l.length ≤ f → splGo s f A.size acc = (0, acc ++ l)
  | [], A, s, acc, f, hs, _, _, _ => by
    rw [bodyT, app_nil] at hs
    subst hs
    cases f with
    | zero => rw [splGo, List.append_nil]
    | succ f => rw [splGo, if_pos (by omega), List.append_nil]
  | c :: r, A, s, acc, 0, _, _, _, hf => by simp at hf
  | c :: r, A, s, acc, f + 1, hs, ht, hd, hf => by
    have hc := ht c (by simp)
    obtain ⟨h1, h2, h3⟩ := chunk_back (A := A) (s := s) (R := bodyT r) (by rw [hs, bodyT]) hc (hd c (by simp))
    have hz : A.size < s.size := by
      rw [hs, ByteArray.size_append, bodyT, ByteArray.size_append, chkT_size, typ_size hc]; omega
    rw [splGo, if_neg (by omega), if_neg (by rw [h1]; decide), h2, h3, ← ByteArray.size_append]
    rw [spl_back r (A ++ chkT c) s (acc ++ [c]) f (by rw [hs, bodyT, app_as]) (fun x hx => ht x (by simp [hx])) (fun x hx => hd x (by simp [hx])) (by simpa using hf)]
    simp
theorem head_back {form : ByteArray} {l : List ChkR} (hf : typB form = true) (hl : AllT l) (hm : sumP l < 2147483000) (k : Nat) (hk : k ≤ (joinT form l).size) : headE ((joinT form l).extract 0 k) = if k = (joinT form l).size then 0 else 2 := by
  have hz := joinT_size hf hl
  have h4 := typ_size hf
  have hr : riffT.size = 4 := rfl
  have hkz : ((joinT form l).extract 0 k).size = k := by simp; omega
  unfold headE
  rw [hkz]
  by_cases h12 : k < 12
  · rw [if_pos h12, if_neg (by omega)]
  rw [if_neg h12]
  obtain ⟨s, hs⟩ : ∃ s, joinT form l = s := ⟨_, rfl⟩
  rw [hs] at hz hkz hk ⊢
  have hb : bytesS (4 + sumP l) 4 false = bytesS (4 + sumP l) 4 false := rfl
  have hbz : (bytesS (4 + sumP l) 4 false).size = 4 := bytesS_size _ _ _
  have e0 : s = riffT ++ (bytesS (4 + sumP l) 4 false ++ form ++ bodyT l) := by rw [← hs, joinT]; simp only [app_as]
  have e1 : s = riffT ++ bytesS (4 + sumP l) 4 false ++ (form ++ bodyT l) := by rw [← hs, joinT]; simp only [app_as]
  have e2 : s = (riffT ++ bytesS (4 + sumP l) 4 false) ++ form ++ bodyT l := by rw [← hs, joinT]
  have z2 : (riffT ++ bytesS (4 + sumP l) 4 false).size = 8 := by rw [ByteArray.size_append, hbz, hr]
  have x0 : ∀ a b, b ≤ k → (s.extract 0 k).extract a b = s.extract a b := fun a b hb => by
    apply ba_ext
    rw [ext_list, ext_list, ext_list, List.drop_zero, Nat.sub_zero, List.drop_take, List.take_take]
    congr 1
    omega
  have t1 : (s.extract 0 k).extract 0 4 = riffT := by rw [x0 _ _ (by omega), e0]; exact ext_pre _ _ _ hr.symm
  have t2 : (s.extract 0 k).extract 8 12 = form := by rw [x0 _ _ (by omega), e2]; exact ext_mid _ _ _ _ _ z2.symm (by rw [z2, h4])
  have t3 : num4 (s.extract 0 k) 4 = 4 + sumP l := by
    have : num4 s 4 = 4 + sumP l := by
      unfold num4
      rw [e1]
      exact num_back _ _ _ riffT _ (Nat.div_eq_of_lt (by show 4 + sumP l < 2 ^ 32; omega))
    rw [← this]
    unfold num4 numAt
    refine horn_congr 4 fun i hi => ?_
    simp only [dig, Bool.false_eq_true, if_false]
    have := bt_extract s 0 k (4 + 4 - 1 - i) (by omega) (by omega)
    rw [Nat.zero_add, Nat.zero_add] at this
    exact this
  rw [t1, t2, t3, if_neg (by rw [hf]; simp)]
  by_cases hkk : k = s.size
  · rw [if_pos hkk, if_neg (by omega), if_neg (by omega)]
  · rw [if_neg hkk, if_pos (by rw [hz] at hk hkk; omega)]
theorem split_join {form : ByteArray} {l : List ChkR} (hf : typB form = true) (hl : AllT l) (hm : sumP l < 2147483000) : splitP (joinT form l) = (form, l, 0) := by
  have hh := head_back hf hl hm (joinT form l).size (Nat.le_refl _)
  rw [ByteArray.extract_zero_size, if_pos rfl] at hh
  have hbz : (bytesS (4 + sumP l) 4 false).size = 4 := bytesS_size _ _ _
  have h4 := typ_size hf
  have hr : riffT.size = 4 := rfl
  have hz := joinT_size hf hl
  have z2 : (riffT ++ bytesS (4 + sumP l) 4 false).size = 8 := by rw [ByteArray.size_append, hbz, hr]
  have z3 : (riffT ++ bytesS (4 + sumP l) 4 false ++ form).size = 12 := by rw [ByteArray.size_append, z2, h4]
  have hlen : ∀ m : List ChkR, m.length ≤ sumP m := fun m => by
    induction m with
    | nil => exact Nat.le_refl _
    | cons c r ih => rw [sumP, List.length_cons]; omega
  have hdat : ∀ m : List ChkR, ∀ c ∈ m, c.dat.size ≤ sumP m := fun m => by
    induction m with
    | nil => intro c hc; cases hc
    | cons x r ih =>
      intro c hc
      rw [sumP]
      rcases List.mem_cons.1 hc with rfl | hc
      · unfold pad; omega
      · have := ih c hc; omega
  have hb := spl_back l (riffT ++ bytesS (4 + sumP l) 4 false ++ form) (joinT form l) [] (joinT form l).size rfl hl (fun c hc => by have := hdat l c hc; omega) (by have := hlen l; omega)
  rw [z3, List.nil_append] at hb
  have hx : (joinT form l).extract 8 12 = form := by
    unfold joinT
    exact ext_mid _ _ _ _ _ z2.symm (by rw [z2, h4])
  unfold splitP
  rw [hh, hb, hx, if_neg (by decide), if_neg (fun h => h rfl)]
theorem split_cut {form : ByteArray} {l : List ChkR} (hf : typB form = true) (hl : AllT l) (hm : sumP l < 2147483000) (k : Nat) (hk : k < (joinT form l).size) : splitP ((joinT form l).extract 0 k) = (⟨#[]⟩, [], 2) := by
  have hh := head_back hf hl hm k (by omega)
  rw [if_neg (by omega)] at hh
  unfold splitP
  rw [hh, if_pos (by decide)]
end Go.Proofs.YtgkgimfdbkpbdaaDoor

import Derived.Test.YtciaebhkemdilaaElfYf
import Derived.Test.YtciaebhkemdilaaElfC
import Derived.Test.YtciaebhkemdilaaElfI
/- Texts that stand in a text: what a written file's headers say (plain). -/
namespace Go.Proofs.Ytciaebhkemdilaa
open Go.RowKit Go.Conc
set_option linter.unusedVariables false
/-- t stands in s from p on. -/
def Sits (s : ByteArray) (p : Nat) (t : ByteArray) : Prop := ∃ a b : ByteArray, s = a ++ t ++ b ∧ a.size = p
section
variable {s t u : ByteArray} {p q : Nat}
theorem Sits.le (h : Sits s p t) : p + t.size ≤ s.size := by
  obtain ⟨a, b, rfl, rfl⟩ := h
  rw [ByteArray.size_append, ByteArray.size_append]; omega
theorem Sits.left (h : Sits s p (t ++ u)) : Sits s p t := by
  obtain ⟨a, b, rfl, rfl⟩ := h
  exact ⟨a, u ++ b, by simp only [app_as], rfl⟩
theorem Sits.right (h : Sits s p (t ++ u)) : Sits s (p + t.size) u := by
  obtain ⟨a, b, rfl, rfl⟩ := h
  exact ⟨a ++ t, b, by simp only [app_as], by rw [ByteArray.size_append]⟩
theorem Sits.more (h : Sits s p t) (m : ByteArray) : Sits (s ++ m) p t := by
  obtain ⟨a, b, rfl, rfl⟩ := h
  exact ⟨a, b ++ m, by simp only [app_as], rfl⟩
theorem Sits.ahead (h : Sits s p t) (m : ByteArray) : Sits (m ++ s) (m.size + p) t := by
  obtain ⟨a, b, rfl, rfl⟩ := h
  exact ⟨m ++ a, b, by simp only [app_as], by rw [ByteArray.size_append]⟩
theorem Sits.all (s : ByteArray) : Sits s 0 s := ⟨⟨#[]⟩, ⟨#[]⟩, by rw [nil_app, app_nil], rfl⟩
theorem Sits.behind (a t : ByteArray) : Sits (a ++ t) a.size t := ⟨a, ⟨#[]⟩, by rw [app_nil], rfl⟩
theorem Sits.trans (h : Sits s p t) (k : Sits t q u) : Sits s (p + q) u := by
  obtain ⟨a, b, rfl, rfl⟩ := h
  obtain ⟨c, d, rfl, rfl⟩ := k
  exact ⟨a ++ c, d ++ b, by simp only [app_as], by rw [ByteArray.size_append]⟩
theorem Sits.ext (h : Sits s p t) : s.extract p (p + t.size) = t := by
  obtain ⟨a, b, rfl, rfl⟩ := h
  exact ext_mid a t b _ _ rfl rfl
theorem Sits.bt (h : Sits s p t) {i : Nat} (hi : i < t.size) : bt s (p + i) = Go.Proofs.Ytciaebhkemdilaa.bt t i := by
  obtain ⟨a, b, rfl, rfl⟩ := h
  rw [bt_append_left _ _ _ (by rw [ByteArray.size_append]; omega), bt_append_right _ _ _ hi]
theorem Sits.num {m d : Nat} (h : Sits s p (bytesS m d false)) (hm : m < 2 ^ (8 * d)) : numAt s p d false = m := by
  obtain ⟨a, b, rfl, rfl⟩ := h
  exact num_back m d false a b (Nat.div_eq_of_lt hm)
end
theorem Sits.nums {d : Nat} : ∀ {l : List Nat} {s : ByteArray} {p : Nat}, Sits s p (numsT d l) → ∀ (i x : Nat), l[i]? = some x → x < 2 ^ (8 * d) → numAt s (p + i * d) d false = x
  | [], _, _, _, i, x, e, _ => by cases e
  | n :: r, s, p, h, 0, x, e, hx => by
    injection e with e
    subst e
    rw [Nat.zero_mul]
    exact h.left.num hx
  | n :: r, s, p, h, i + 1, x, e, hx => by
    have k := h.right
    rw [bytesS_size] at k
    have a := Sits.nums k i x e hx
    rw [show p + (i + 1) * d = p + d + i * d by rw [Nat.succ_mul]; omega]
    exact a
section
variable {s : ByteArray} {h : Nat}
theorem Sits.n2 {l : List Nat} (k : Sits s h (numsT 2 l)) (i x : Nat) (e : l[i]? = some x) (hx : x < 65536) : n2 s (h + i * 2) = x := k.nums i x e hx
theorem Sits.n4 {l : List Nat} (k : Sits s h (numsT 4 l)) (i x : Nat) (e : l[i]? = some x) (hx : x < 4294967296) : n4 s (h + i * 4) = x := k.nums i x e hx
theorem Sits.n8 {l : List Nat} (k : Sits s h (numsT 8 l)) (i x : Nat) (e : l[i]? = some x) (hx : x < 18446744073709551616) : n8 s (h + i * 8) = x := k.nums i x e hx
theorem Sits.step {t u : ByteArray} {p n q : Nat} (k : Sits s p (t ++ u)) (hn : t.size = n) (hq : p + n = q) : Sits s q u := by
  have := k.right
  rw [hn, hq] at this
  exact this
theorem seg_fields {t f of va pa fz ms al : Nat} (k : Sits s h (segT t f of va pa fz ms al)) (ht : t < 4294967296) (hf : f < 4294967296) (hof : of < 18446744073709551616) (hva : va < 18446744073709551616) (hpa : pa < 18446744073709551616) (hfz : fz < 18446744073709551616) (hms : ms < 18446744073709551616) (hal : al < 18446744073709551616) :
    n4 s h = t ∧ n4 s (h + 4) = f ∧ n8 s (h + 8) = of ∧ n8 s (h + 16) = va ∧ n8 s (h + 24) = pa ∧ n8 s (h + 32) = fz ∧ n8 s (h + 40) = ms ∧ n8 s (h + 48) = al := by
  unfold segT at k
  have a := k.left
  have b := k.step (q := h + 8) (numsT_size _ _) rfl
  exact ⟨a.n4 0 t rfl ht, a.n4 1 f rfl hf, b.n8 0 of rfl hof, b.n8 1 va rfl hva, b.n8 2 pa rfl hpa, b.n8 3 fz rfl hfz, b.n8 4 ms rfl hms, b.n8 5 al rfl hal⟩
theorem sec_fields {name typ fl ad at_ sz lk inf al ea : Nat} (k : Sits s h (shT name typ fl ad at_ sz lk inf al ea)) (h1 : name < 4294967296) (h2 : typ < 4294967296) (h3 : fl < 18446744073709551616) (h4 : ad < 18446744073709551616) (h5 : at_ < 18446744073709551616) (h6 : sz < 18446744073709551616) (h7 : lk < 4294967296) (h8 : inf < 4294967296) (h9 : al < 18446744073709551616) (h10 : ea < 18446744073709551616) :
    n4 s h = name ∧ n4 s (h + 4) = typ ∧ n8 s (h + 8) = fl ∧ n8 s (h + 16) = ad ∧ n8 s (h + 24) = at_ ∧ n8 s (h + 32) = sz ∧ n4 s (h + 40) = lk ∧ n4 s (h + 44) = inf ∧ n8 s (h + 48) = al ∧ n8 s (h + 56) = ea := by
  unfold shT at k
  have d := k.step (q := h + 48) (by rw [ByteArray.size_append, ByteArray.size_append, numsT_size, numsT_size, numsT_size]; rfl) rfl
  have k := k.left
  have c := k.step (q := h + 40) (by rw [ByteArray.size_append, numsT_size, numsT_size]; rfl) rfl
  have k := k.left
  have a := k.left
  have b := k.step (q := h + 8) (numsT_size _ _) rfl
  exact ⟨a.n4 0 _ rfl h1, a.n4 1 _ rfl h2, b.n8 0 _ rfl h3, b.n8 1 _ rfl h4, b.n8 2 _ rfl h5, b.n8 3 _ rfl h6, c.n4 0 _ rfl h7, c.n4 1 _ rfl h8, d.n8 0 _ rfl h9, d.n8 1 _ rfl h10⟩
theorem head_fields {ty ma en fl sA n k : Nat} (g : Sits s 0 (headT ty ma en fl sA n k)) (h1 : ty < 65536) (h2 : ma < 65536) (h3 : en < 18446744073709551616) (h4 : fl < 4294967296) (h5 : sA < 18446744073709551616) (h6 : n ≤ 1000) (h7 : k ≤ 1000) :
    HeadOk s ∧ n2 s 16 = ty ∧ n2 s 18 = ma ∧ n8 s 24 = en ∧ n8 s 32 = pOf n ∧ n8 s 40 = sA ∧ n4 s 48 = fl ∧ n2 s 56 = n ∧ n2 s 60 = k + 2 := by
  unfold headT at g
  have hp : pOf n < 18446744073709551616 := by unfold pOf; split <;> omega
  have f6 := g.step (q := 52) (by rw [ByteArray.size_append, ByteArray.size_append, ByteArray.size_append, ByteArray.size_append, numsT_size, numsT_size, numsT_size, numsT_size, mag_size]) rfl
  have g := g.left
  have f5 := g.step (q := 48) (by rw [ByteArray.size_append, ByteArray.size_append, ByteArray.size_append, numsT_size, numsT_size, numsT_size, mag_size]) rfl
  have g := g.left
  have f4 := g.step (q := 24) (by rw [ByteArray.size_append, ByteArray.size_append, numsT_size, numsT_size, mag_size]) rfl
  have g := g.left
  have f3 := g.step (q := 20) (by rw [ByteArray.size_append, numsT_size, mag_size]) rfl
  have g := g.left
  have f2 := g.step (q := 16) mag_size rfl
  have g := g.left
  have e60 := f6.n2 4 _ rfl (show k + 2 < 65536 by omega)
  have e62 := f6.n2 5 _ rfl (show k + 1 < 65536 by omega)
  have e56 := f6.n2 2 _ rfl (show n < 65536 by omega)
  have e52 := f6.n2 0 64 rfl (by decide)
  have e54 := f6.n2 1 56 rfl (by decide)
  have e58 := f6.n2 3 64 rfl (by decide)
  refine ⟨⟨g.ext, f3.n4 0 1 rfl (by decide), e52, e54, e58, ?_, ?_, ?_, ?_⟩, f2.n2 0 _ rfl h1, f2.n2 1 _ rfl h2, f4.n8 0 _ rfl h3, f4.n8 1 _ rfl hp, f4.n8 2 _ rfl h5, f5.n4 0 _ rfl h4, e56, e60⟩
  · rw [show Go.Proofs.Ytciaebhkemdilaa.n2 s 62 = k + 1 from e62, show Go.Proofs.Ytciaebhkemdilaa.n2 s 60 = k + 2 from e60]; omega
  · rw [show Go.Proofs.Ytciaebhkemdilaa.n2 s 60 = k + 2 from e60]; omega
  · rw [show Go.Proofs.Ytciaebhkemdilaa.n2 s 60 = k + 2 from e60]; omega
  · rw [show Go.Proofs.Ytciaebhkemdilaa.n2 s 56 = n from e56]; omega
end
theorem segs_sit : ∀ {l : List SegR} {i : Nat} {x : SegR}, l[i]? = some x → Sits (segsT l) (56 * i) (segTx x)
  | [], i, x, e => by cases e
  | y :: r, 0, x, e => by
    injection e with e
    subst e
    exact ((Sits.all (segTx y)).more _)
  | y :: r, i + 1, x, e => by
    have k := (segs_sit (l := r) (i := i) (x := x) e).ahead (segTx y)
    rw [show (segTx y).size = 56 from segT_size _ _ _ _ _ _ _ _, show 56 + 56 * i = 56 * (i + 1) by omega] at k
    exact k
theorem shs_sit : ∀ {l : List ((SecR × Nat) × Nat)} {i : Nat} {x : (SecR × Nat) × Nat}, l[i]? = some x → Sits (shsT l) (64 * i) (shTx x)
  | [], i, x, e => by cases e
  | y :: r, 0, x, e => by
    injection e with e
    subst e
    exact ((Sits.all (shTx y)).more _)
  | y :: r, i + 1, x, e => by
    have k := (shs_sit (l := r) (i := i) (x := x) e).ahead (shTx y)
    rw [show (shTx y).size = 64 from shT_size _ _ _ _ _ _ _ _ _ _, show 64 + 64 * i = 64 * (i + 1) by omega] at k
    exact k
theorem put_sits {s t d : ByteArray} {p : Nat} (h : Sits s p t) : Sits (putT s d) p t := by
  unfold putT
  split
  · exact h
  · exact (h.more _).more _
theorem dat_pre {s t : ByteArray} {p : Nat} (L : List ((SecR × Nat) × Nat)) (h : Sits s p t) : Sits (datT L s) p t := by
  induction L generalizing s with
  | nil => exact h
  | cons y r ih => exact ih (put_sits h)
theorem dat_sits {L : List (SecR × Nat)} {s : ByteArray} {y : (SecR × Nat) × Nat} (h : y ∈ atG L s.size) : (y.1.1.dat.size = 0 ∧ y.2 = 0) ∨ (¬ y.1.1.dat.size = 0 ∧ Sits (datT (atG L s.size) s) y.2 y.1.1.dat) := by
  induction L generalizing s with
  | nil => cases h
  | cons x r ih =>
    rw [atG] at h ⊢
    by_cases hd : x.1.dat.size = 0
    · rw [if_pos hd] at h ⊢
      have e : putT s x.1.dat = s := by unfold putT; rw [if_pos hd]
      rcases List.mem_cons.1 h with rfl | h
      · exact .inl ⟨hd, rfl⟩
      · have k := ih h
        rw [datT]
        simp only [e]
        exact k
    · rw [if_neg hd] at h ⊢
      have e := putT_size (s := s) hd
      rw [datT]
      rcases List.mem_cons.1 h with rfl | h
      · refine .inr ⟨hd, dat_pre _ ?_⟩
        have k := Sits.behind (s ++ zerosT (pad8 s.size)) x.1.dat
        rw [ByteArray.size_append, zerosT_size] at k
        show Sits (putT s x.1.dat) (al8 s.size) x.1.dat
        unfold putT al8
        rw [if_neg hd]
        exact k
      · rw [← e] at h ⊢
        exact ih h
theorem nam_sits {l : List SecR} {p : Nat} {z : SecR × Nat} (h : z ∈ allG l p) : ∃ q, z.2 = p + q ∧ Sits (nmsT l) q (z.1.nam ++ ⟨#[0]⟩) := by
  induction l generalizing p with
  | nil => cases h
  | cons x r ih =>
    rw [allG] at h
    rw [nmsT]
    rcases List.mem_cons.1 h with rfl | h
    · exact ⟨0, rfl, (Sits.all _).more _⟩
    · obtain ⟨q, e, k⟩ := ih h
      refine ⟨(x.nam ++ (⟨#[0]⟩ : ByteArray)).size + q, ?_, k.ahead _⟩
      rw [e, ByteArray.size_append, one_size]; omega
theorem atG_map (L : List (SecR × Nat)) (p : Nat) : (atG L p).map (·.1) = L := by
  induction L generalizing p with
  | nil => rfl
  | cons x r ih => rw [atG]; split <;> rw [List.map_cons, ih]
theorem allG_map (l : List SecR) (p : Nat) : (allG l p).map (·.1) = l := by
  induction l generalizing p with
  | nil => rfl
  | cons x r ih => rw [allG, List.map_cons, ih]
theorem zGo_ne {d : ByteArray} : ∀ {f p j : Nat}, p ≤ j → j < zGo d f p → bt d j ≠ 0
  | 0, p, j, h1, h2 => by rw [zGo] at h2; omega
  | f + 1, p, j, h1, h2 => by
    rw [zGo] at h2
    by_cases e : bt d p = 0
    · rw [if_pos e] at h2; omega
    · rw [if_neg e] at h2
      by_cases h : p = j
      · subst h; exact e
      · exact zGo_ne (by omega) h2
theorem noZ_bt {d : ByteArray} (h : noZ d = true) (j : Nat) (hj : j < d.size) : bt d j ≠ 0 := by
  unfold noZ at h
  have k := ixb_zero (d := d) (p := 0) (Nat.zero_le _)
  rw [show d.extract 0 d.size = d by simp] at k
  rw [k] at h
  by_cases e : zAt d 0 < d.size
  · rw [if_pos e] at h
    exfalso
    revert h
    simp
  · exact zGo_ne (f := d.size - 0) (p := 0) (Nat.zero_le _) (by have : zGo d (d.size - 0) 0 = zAt d 0 := rfl; omega)
theorem zAt_sits {d t : ByteArray} {p : Nat} (h : Sits d p (t ++ ⟨#[0]⟩)) (ht : ∀ j, j < t.size → bt t j ≠ 0) : zAt d p = p + t.size := by
  have hl := h.le
  rw [ByteArray.size_append, one_size] at hl
  have hz := h.right.bt (i := 0) (by decide)
  refine zAt_is (by omega) (by omega) (fun j h1 h2 => ?_) (fun _ => ?_)
  · have k := h.left.bt (i := j - p) (by omega)
    rw [show p + (j - p) = j by omega] at k
    rw [k]
    exact ht _ (by omega)
  · rw [Nat.add_zero] at hz
    rw [hz]
    rfl
end Go.Proofs.Ytciaebhkemdilaa
/- What is written is read (plain). -/
namespace Go.Proofs.Ytciaebhkemdilaa
open Go.RowKit Go.Conc
set_option linter.unusedVariables false
/-- A section that may be written. -/
structure GoodS (x : SecR) : Prop where
  typ : 0 ≤ x.typ ∧ x.typ ≤ 4294967295
  lnk : 0 ≤ x.lnk ∧ x.lnk ≤ 4294967295
  inf : 0 ≤ x.inf ∧ x.inf ≤ 4294967295
  siz : 0 ≤ x.siz ∧ x.siz ≤ 1099511627776
  one : sec1 x = true
  nam : x.nam.size ≤ 200
  noz : ∀ j, j < x.nam.size → bt x.nam j ≠ 0
theorem good_valid {m : ElfR} (h : validB m = true) (x : SecR) (hx : x ∈ m.secs) : GoodS x := by
  obtain ⟨a, b, c, d⟩ := valid_secs h x hx
  unfold validB at h
  simp only [Bool.and_eq_true, List.all_eq_true] at h
  have h1 := h.2.2.2.2 x hx
  unfold secOk at h1
  simp only [Bool.and_eq_true, decide_eq_true_eq] at h1
  exact ⟨a, b, c, d, h1.1, h1.2.1, noZ_bt h1.2.2.1⟩
theorem good_nul : GoodS nulS := by
  refine ⟨?_, ?_, ?_, ?_, ?_, ?_, fun j hj => ?_⟩
  · decide
  · decide
  · decide
  · decide
  · rfl
  · decide
  · exact absurd hj (Nat.not_lt_zero _)
theorem good_sh (d : ByteArray) : GoodS (shS d) := by
  refine ⟨?_, ?_, ?_, ?_, ?_, ?_, fun j hj => ?_⟩
  · show (0 : Int) ≤ 3 ∧ (3 : Int) ≤ 4294967295; decide
  · show (0 : Int) ≤ 0 ∧ (0 : Int) ≤ 4294967295; decide
  · show (0 : Int) ≤ 0 ∧ (0 : Int) ≤ 4294967295; decide
  · show (0 : Int) ≤ 0 ∧ (0 : Int) ≤ 1099511627776; decide
  · rfl
  · show (9 : Nat) ≤ 200; decide
  · have h9 : j < 9 := hj
    show bt ⟨#[46, 115, 104, 115, 116, 114, 116, 97, 98]⟩ j ≠ 0
    rcases (show j = 0 ∨ j = 1 ∨ j = 2 ∨ j = 3 ∨ j = 4 ∨ j = 5 ∨ j = 6 ∨ j = 7 ∨ j = 8 by omega) with h | h | h | h | h | h | h | h | h <;> subst h <;> decide
theorem good_all {m : ElfR} (h : validB m = true) (d : ByteArray) (x : SecR) (hx : x ∈ allL m.secs d) : GoodS x := by
  unfold allL at hx
  rcases List.mem_cons.1 hx with rfl | hx
  · exact good_nul
  · rcases List.mem_append.1 hx with hx | hx
    · exact good_valid h x hx
    · rw [List.mem_singleton.1 hx]; exact good_sh d
theorem nms_all (l : List SecR) (d : ByteArray) : nmsT (allL l d) = namesT l := by
  unfold namesT allL
  rw [show nulS :: (l ++ [shS d]) = [nulS] ++ l ++ [shS d] by simp, show nulS :: (l ++ [shS ⟨#[]⟩]) = [nulS] ++ l ++ [shS ⟨#[]⟩] by simp, nmsT_app, nmsT_app, nmsT_app, nmsT_app]
  rfl
/-- A model that is written. -/
structure Wr (m : ElfR) : Prop where
  val : validB m = true
  sec : ∀ x ∈ m.secs, x.Ok
  seg : ∀ x ∈ m.segs, x.Ok
  ent : m.ent < 18446744073709551616
  few : endG (allP m.secs) (wP m) ≤ 80000000
  nms : (nmsT m.secs).size ≤ 80000000
section
variable {m : ElfR}
theorem Wr.row (h : Wr m) : ∀ y ∈ wRow m, RowOk y := rows_ok h.val h.sec h.few h.nms
theorem wr_heads (m : ElfR) : Sits (writeT m) 0 (wHead m ++ segsT m.segs) := by
  unfold writeT wDat
  exact ((dat_pre _ (Sits.all _)).more _).more _
theorem al8_lt (n : Nat) : al8 n < n + 8 := by unfold al8; have := pad8_le n; omega
theorem wr_size (m : ElfR) : (wDat m ++ zerosT (pad8 (wDat m).size)).size = al8 (endG (allP m.secs) (wP m)) := by
  rw [ByteArray.size_append, zerosT_size, wDat_size]
  rfl
theorem Wr.head (h : Wr m) : HeadOk (writeT m) ∧ n2 (writeT m) 16 = m.typ.toNat ∧ n2 (writeT m) 18 = m.mac.toNat ∧ n8 (writeT m) 24 = m.ent ∧ n8 (writeT m) 32 = pOf m.segs.length ∧ n8 (writeT m) 40 = al8 (endG (allP m.secs) (wP m)) ∧ n4 (writeT m) 48 = m.flg.toNat ∧ n2 (writeT m) 56 = m.segs.length ∧ n2 (writeT m) 60 = m.secs.length + 2 := by
  have g := (wr_heads m).left
  unfold wHead at g
  obtain ⟨a, b, c⟩ := valid_nats h.val
  obtain ⟨d, e⟩ := valid_few h.val
  have hf := h.few
  have hal := al8_lt (endG (allP m.secs) (wP m))
  exact head_fields g (by omega) (by omega) h.ent (by omega) (by omega) d e
theorem Wr.pAt (h : Wr m) : pAt (writeT m) = pOf m.segs.length := h.head.2.2.2.2.1
theorem Wr.sAt (h : Wr m) : sAt (writeT m) = al8 (endG (allP m.secs) (wP m)) := h.head.2.2.2.2.2.1
theorem Wr.nSeg (h : Wr m) : nSeg (writeT m) = m.segs.length := h.head.2.2.2.2.2.2.2.1
theorem Wr.nSec (h : Wr m) : nSec (writeT m) = m.secs.length + 2 := h.head.2.2.2.2.2.2.2.2
theorem Wr.segs (h : Wr m) {i : Nat} {x : SegR} (hx : m.segs[i]? = some x) : segC (writeT m) (segAt (writeT m) i) = x ∧ segE (writeT m) (segAt (writeT m) i) = if ((writeT m).size : Int) < x.off + x.fsz then 2 else 0 := by
  have hi := (List.getElem?_eq_some_iff.1 hx).1
  have hm : x ∈ m.segs := List.mem_of_getElem? hx
  have k := (wr_heads m).step (n := 64) (q := 64) (headT_size _ _ _ _ _ _ _) rfl
  have k := k.trans (segs_sit hx)
  unfold segTx at k
  obtain ⟨a, b, c, d⟩ := valid_segs h.val x hm
  have o := h.seg x hm
  unfold SegR.Ok at o
  obtain ⟨-, -, -, o1, o2, -, o3, o4⟩ := o
  obtain ⟨f1, f2, f3, f4, f5, f6, f7, f8⟩ := seg_fields k (by omega) (by omega) (by omega) (by omega) (by omega) (by omega) (by omega) (by omega)
  have e : segAt (writeT m) i = 64 + 56 * i := by
    unfold segAt
    rw [h.pAt]
    unfold pOf
    rw [if_neg (by omega)]
  rw [e]
  constructor
  · unfold segC
    rw [f1, f2, f3, f4, f5, f6, f7, f8, Int.toNat_of_nonneg a.1, Int.toNat_of_nonneg b.1, Int.toNat_of_nonneg c.1, Int.toNat_of_nonneg d.1]
  · unfold segE great
    rw [f3, f6, if_neg (by omega)]
    by_cases hc : ((writeT m).size : Int) < x.off + x.fsz
    · rw [if_pos hc, if_pos (by omega)]
    · rw [if_neg hc, if_neg (by omega)]
theorem row_sec (m : ElfR) (i : Nat) : (wRow m)[i]?.map (·.1.1) = (allL m.secs (namesT m.secs))[i]? := by
  rw [← List.getElem?_map, show (fun y : (SecR × Nat) × Nat => y.1.1) = (fun z : SecR × Nat => z.1) ∘ (fun y => y.1) from rfl, ← List.map_map]
  unfold wRow
  rw [atG_map]
  unfold allP
  rw [allG_map]
theorem Wr.sits (h : Wr m) {i : Nat} {y : (SecR × Nat) × Nat} (hy : (wRow m)[i]? = some y) : Sits (writeT m) (secAt (writeT m) i) (shTx y) := by
  have k := (shs_sit hy).ahead (wDat m ++ zerosT (pad8 (wDat m).size))
  rw [wr_size] at k
  unfold secAt
  rw [h.sAt]
  exact k
theorem Wr.good (h : Wr m) {y : (SecR × Nat) × Nat} (hy : y ∈ wRow m) : GoodS y.1.1 := by
  obtain ⟨i, hi⟩ := List.getElem?_of_mem hy
  have e := row_sec m i
  rw [hi] at e
  exact good_all h.val _ _ (List.mem_of_getElem? e.symm)
theorem Wr.data (h : Wr m) {y : (SecR × Nat) × Nat} (hy : y ∈ wRow m) : (writeT m).extract y.2 (y.2 + y.1.1.dat.size) = y.1.1.dat ∧ y.2 + y.1.1.dat.size ≤ (writeT m).size := by
  have hs : (wHead m ++ segsT m.segs).size = wP m := by
    rw [ByteArray.size_append, wHead, headT_size, segsT_size, wP]
  unfold wRow at hy
  rw [← hs] at hy
  rcases dat_sits hy with ⟨a, b⟩ | ⟨a, k⟩
  · rw [a, b]
    refine ⟨?_, Nat.zero_le _⟩
    apply ba_ext
    rw [ext_list]
    have : y.1.1.dat.data.toList = [] := List.eq_nil_of_length_eq_zero (by rw [← size_list]; exact a)
    rw [this]
    simp
  · rw [hs] at k
    have k2 : Sits (writeT m) y.2 y.1.1.dat := by
      unfold writeT wDat wRow
      exact (k.more _).more _
    exact ⟨k2.ext, k2.le⟩
theorem Wr.names (h : Wr m) {y : (SecR × Nat) × Nat} (hy : y ∈ wRow m) : namT (namesT m.secs) y.1.2 = y.1.1.nam ∧ namK (namesT m.secs) y.1.2 = true := by
  have g := h.good hy
  have h1 := (at_mem _ _ y hy).1
  unfold allP at h1
  obtain ⟨q, e, k⟩ := nam_sits h1
  rw [Nat.zero_add] at e
  rw [nms_all, ← e] at k
  have hz := zAt_sits k g.noz
  have hl := k.le
  rw [ByteArray.size_append, one_size] at hl
  have g2 := g.nam
  constructor
  · unfold namT
    rw [hz]
    exact k.left.ext
  · unfold namK
    rw [hz, decide_eq_true (by omega : y.1.2 + y.1.1.nam.size < (namesT m.secs).size), decide_eq_true (by omega : y.1.2 + y.1.1.nam.size - y.1.2 ≤ 200)]
    rfl
theorem Wr.secs (h : Wr m) {i : Nat} {y : (SecR × Nat) × Nat} (hy : (wRow m)[i]? = some y) :
    secE (writeT m) (secAt (writeT m) i) = 0 ∧ secD (writeT m) (secAt (writeT m) i) = y.1.1.dat ∧ namP (writeT m) i = y.1.2 ∧ n4 (writeT m) (secAt (writeT m) i + 4) = y.1.1.typ.toNat ∧ secC (writeT m) (secAt (writeT m) i) y.1.1.nam y.1.1.dat = y.1.1 := by
  have hm : y ∈ wRow m := List.mem_of_getElem? hy
  have k := h.sits hy
  have g := h.good hm
  have r := h.row y hm
  obtain ⟨d1, d2⟩ := h.data hm
  obtain ⟨-, d3, d4⟩ := at_mem _ _ y hm
  have hf := h.few
  unfold RowOk at r
  obtain ⟨r1, r2, r3, r4, r5, r6, r7, r8, r9, r10, r11⟩ := r
  have hsz : (if y.1.1.typ.toNat = 8 then y.1.1.siz.toNat else y.1.1.dat.size) ≤ 1099511627776 := by split <;> omega
  have one := g.one
  unfold sec1 at one
  unfold shTx at k
  obtain ⟨f1, f2, f3, f4, f5, f6, f7, f8, f9, f10⟩ := sec_fields k (by omega) (by omega) (by omega) (by omega) (by omega) (by omega) (by omega) (by omega) (by omega) (by omega)
  have hD : secD (writeT m) (secAt (writeT m) i) = y.1.1.dat := by
    unfold secD
    rw [f2, f5, f6]
    by_cases h8 : y.1.1.typ.toNat = 8
    · rw [if_pos h8]
      rw [if_pos (by omega), decide_eq_true_eq] at one
      apply ba_ext
      have : y.1.1.dat.data.toList = [] := List.eq_nil_of_length_eq_zero (by rw [← size_list]; exact one)
      rw [this]
    · rw [if_neg h8, if_neg h8]
      exact d1
  have hZ : secZ (writeT m) (secAt (writeT m) i) = y.1.1.siz.toNat := by
    unfold secZ
    rw [f2, f6]
    by_cases h8 : y.1.1.typ.toNat = 8
    · rw [if_pos h8, if_pos h8]
    · rw [if_neg h8]
      rw [if_neg (by omega), decide_eq_true_eq] at one
      rw [one]; rfl
  refine ⟨?_, hD, f1, f2, ?_⟩
  · unfold secE great
    rw [f2, f5, f6, if_neg (by omega), if_neg]
    rintro ⟨h8, hc⟩
    rw [if_neg h8] at hc
    omega
  · unfold secC
    rw [hZ, f2, f3, f4, f7, f8, f9, f10, Int.toNat_of_nonneg g.typ.1, Int.toNat_of_nonneg g.siz.1, Int.toNat_of_nonneg g.lnk.1, Int.toNat_of_nonneg g.inf.1]
theorem row_get (m : ElfR) {i : Nat} (hi : i < m.secs.length + 2) : ∃ y, (wRow m)[i]? = some y := by
  rw [← wRow_len m] at hi
  exact ⟨_, List.getElem?_eq_getElem hi⟩
theorem row_last (m : ElfR) {y : (SecR × Nat) × Nat} (hy : (wRow m)[m.secs.length + 1]? = some y) : y.1.1 = shS (namesT m.secs) := by
  have e := row_sec m (m.secs.length + 1)
  rw [hy] at e
  unfold allL at e
  rw [List.getElem?_cons_succ, List.getElem?_append_right (Nat.le_refl _), Nat.sub_self] at e
  injection e
theorem Wr.lastD (h : Wr m) : lastD (writeT m) = namesT m.secs := by
  obtain ⟨y, hy⟩ := row_get m (i := m.secs.length + 1) (by omega)
  unfold Go.Proofs.Ytciaebhkemdilaa.lastD
  rw [h.nSec, show m.secs.length + 2 - 1 = m.secs.length + 1 by omega, (h.secs hy).2.1, row_last m hy]
  rfl
theorem Wr.zero (h : Wr m) : ZeroOk (writeT m) := by
  intro i hi
  have e0 : (wRow m)[0]? = some ((nulS, 0), 0) := by
    unfold wRow allP allL
    rw [allG, atG, if_pos (by rfl)]
    rfl
  have k := h.sits e0
  have e : shTx ((nulS, 0), 0) = zerosT 64 := by
    apply ba_ext
    decide
  unfold secAt at k
  rw [e, Nat.mul_zero, Nat.add_zero] at k
  rw [k.bt (by rw [zerosT_size]; exact hi)]
  have : ∀ i, i < 64 → bt (zerosT 64) i = 0 := by decide
  exact this i hi
theorem Wr.base (h : Wr m) : hdE (writeT m) = 0 ∧ cutB (writeT m) = false := by
  have hs := writeT_size m
  have he : wP m ≤ endG (allP m.secs) (wP m) := endG_le _ _
  have hal := al8_le (endG (allP m.secs) (wP m))
  refine ⟨hd_ok (by omega) h.head.1, ?_⟩
  unfold cutB
  rw [h.nSeg, h.nSec, h.pAt, h.sAt, hs]
  have he2 : 64 + 56 * m.segs.length ≤ endG (allP m.secs) (wP m) := he
  rw [decide_eq_false (by omega : ¬ _ < al8 (endG (allP m.secs) (wP m)) + 64 * (m.secs.length + 2)), Bool.or_false, Bool.and_eq_false_iff]
  by_cases h0 : m.segs.length = 0
  · exact .inl (decide_eq_false (by omega))
  · refine .inr (decide_eq_false ?_)
    unfold pOf
    rw [if_neg h0]
    omega
theorem first_two {f : Nat → Int} : ∀ {k i : Nat}, (∀ j, i ≤ j → j < i + k → f j = 0 ∨ f j = 2) → firstE f k i = 0 ∨ firstE f k i = 2
  | 0, _, _ => .inl rfl
  | k + 1, i, h => by
    rw [firstE]
    by_cases h0 : f i ≠ 0
    · rw [if_pos h0]
      exact h i (Nat.le_refl _) (by omega)
    · rw [if_neg h0]
      exact first_two fun j a b => h j (by omega) (by omega)
theorem Wr.far (h : Wr m) {x : SegR} (hx : x ∈ m.segs) (hf : ((writeT m).size : Int) < x.off + x.fsz) : readE (writeT m) = 2 := by
  obtain ⟨i, hi⟩ := List.getElem?_of_mem hx
  have hl := (List.getElem?_eq_some_iff.1 hi).1
  obtain ⟨a, b⟩ := h.base
  have ht : segsE (writeT m) = 0 ∨ segsE (writeT m) = 2 := by
    unfold segsE
    rw [h.nSeg]
    refine first_two fun j _ hj => ?_
    rw [Nat.zero_add] at hj
    rw [(h.segs (List.getElem?_eq_getElem hj)).2]
    split
    · exact .inr rfl
    · exact .inl rfl
  have hn : segsE (writeT m) ≠ 0 := fun e => by
    unfold segsE at e
    have := first_0 e i (Nat.zero_le _) (by rw [h.nSeg]; omega)
    rw [(h.segs hi).2, if_pos hf] at this
    cases this
  rw [read_seg a b hn]
  exact ht.resolve_left hn
theorem Wr.back (h : Wr m) (hf : ∀ x ∈ m.segs, x.off + x.fsz ≤ ((writeT m).size : Int)) : readE (writeT m) = 0 ∧ readM (writeT m) = m := by
  obtain ⟨a, b⟩ := h.base
  have hsg : segsE (writeT m) = 0 := by
    unfold segsE
    rw [h.nSeg]
    refine first_all fun j _ hj => ?_
    rw [Nat.zero_add] at hj
    rw [(h.segs (List.getElem?_eq_getElem hj)).2, if_neg]
    have := hf _ (List.getElem_mem hj)
    omega
  have hsc : secsE (writeT m) = 0 := by
    unfold secsE
    rw [h.nSec]
    refine first_all fun j _ hj => ?_
    obtain ⟨y, hy⟩ := row_get m (i := j) (by omega)
    exact (h.secs hy).1
  have hnm : NamesOk (writeT m) := by
    obtain ⟨y, hy⟩ := row_get m (i := m.secs.length + 1) (by omega)
    have hym := List.mem_of_getElem? hy
    have hl := row_last m hy
    refine ⟨?_, fun i h1 h2 => ?_, ?_⟩
    · rw [h.nSec, show m.secs.length + 2 - 1 = m.secs.length + 1 by omega, (h.secs hy).2.2.2.1, hl]
      rfl
    · rw [h.nSec] at h2
      obtain ⟨z, hz⟩ := row_get m (i := i) h2
      rw [h.lastD, (h.secs hz).2.2.1]
      exact (h.names (List.mem_of_getElem? hz)).2
    · rw [h.lastD, h.nSec, show m.secs.length + 2 - 1 = m.secs.length + 1 by omega, (h.secs hy).2.2.1, (h.names hym).1, hl]
      rfl
  obtain ⟨hE, hM⟩ := read_ok a b hsg h.zero hsc hnm
  refine ⟨hE, ?_⟩
  rw [hM]
  obtain ⟨-, e1, e2, e3, -, -, e4, -, -⟩ := h.head
  obtain ⟨v1, v2, v3⟩ := valid_nats h.val
  have l1 : segL (writeT m) = m.segs := by
    unfold segL
    rw [h.nSeg]
    apply List.ext_getElem?
    intro i
    by_cases hi : i < m.segs.length
    · rw [List.getElem?_map, List.getElem?_range hi, List.getElem?_eq_getElem hi]
      exact congrArg some (h.segs (List.getElem?_eq_getElem hi)).1
    · rw [List.getElem?_eq_none (by simp; omega), List.getElem?_eq_none (by omega)]
  have l2 : secL (writeT m) = m.secs := by
    unfold secL
    rw [h.nSec, Nat.add_sub_cancel]
    apply List.ext_getElem?
    intro i
    by_cases hi : i < m.secs.length
    · obtain ⟨y, hy⟩ := row_get m (i := i + 1) (by omega)
      have e := row_sec m (i + 1)
      rw [hy] at e
      unfold allL at e
      rw [List.getElem?_cons_succ, List.getElem?_append_left hi] at e
      rw [List.getElem?_map, List.getElem?_range hi, ← e]
      show some (secC _ _ (namT (Go.Proofs.Ytciaebhkemdilaa.lastD _) (namP _ (i + 1))) _) = some y.1.1
      rw [h.lastD, (h.secs hy).2.2.1, (h.names (List.mem_of_getElem? hy)).1, (h.secs hy).2.1, (h.secs hy).2.2.2.2]
    · rw [List.getElem?_eq_none (by simp; omega), List.getElem?_eq_none (by omega)]
  unfold modelP
  rw [l1, l2, e1, e2, e3, e4, Int.toNat_of_nonneg v1.1, Int.toNat_of_nonneg v2.1, Int.toNat_of_nonneg v3.1]
end
end Go.Proofs.Ytciaebhkemdilaa
/- More behind a file, a file that is cut, a head that is turned (plain). -/
namespace Go.Proofs.Ytciaebhkemdilaa
open Go.RowKit Go.Conc
set_option linter.unusedVariables false
section
variable {s : ByteArray} (m : ByteArray)
theorem ext_more {a b : Nat} (h : b ≤ s.size) : (s ++ m).extract a b = s.extract a b := by
  apply ba_ext
  rw [ext_list, ext_list, app_list, List.drop_append, List.take_append]
  have : s.data.toList.length = s.size := (size_list s).symm
  by_cases hab : a ≤ b
  · rw [show b - a - (List.drop a s.data.toList).length = 0 by rw [List.length_drop, this]; omega, List.take_zero, List.append_nil]
  · rw [show b - a = 0 by omega]; simp
theorem num_more {p d : Nat} (h : p + d ≤ s.size) : numAt (s ++ m) p d false = numAt s p d false := by
  have k := num_part (s ++ m) 0 s.size p d h (by rw [ByteArray.size_append]; omega)
  rw [ext_pre _ _ _ (by omega), Nat.zero_add] at k
  exact k.symm
theorem n2_more {p : Nat} (h : p + 2 ≤ s.size) : n2 (s ++ m) p = n2 s p := num_more m h
theorem n4_more {p : Nat} (h : p + 4 ≤ s.size) : n4 (s ++ m) p = n4 s p := num_more m h
theorem n8_more {p : Nat} (h : p + 8 ≤ s.size) : n8 (s ++ m) p = n8 s p := num_more m h
theorem hd_is {s : ByteArray} (h : hdE s = 0) : 64 ≤ s.size ∧ HeadOk s := by
  unfold hdE at h
  by_cases a : s.size < 64
  · rw [if_pos a] at h; cases h
  · rw [if_neg a] at h
    by_cases b : HeadOk s
    · exact ⟨by omega, b⟩
    · rw [if_neg b] at h; cases h
theorem head_more (h : HeadOk s) (k : 64 ≤ s.size) : HeadOk (s ++ m) := by
  obtain ⟨a, b, c, d, e, f, g, i, j⟩ := h
  refine ⟨by rw [ext_more m (by omega)]; exact a, by rw [n4_more m (by omega)]; exact b, by rw [n2_more m (by omega)]; exact c, by rw [n2_more m (by omega)]; exact d, by rw [n2_more m (by omega)]; exact e, by rw [n2_more m (by omega), n2_more m (by omega)]; exact f, by rw [n2_more m (by omega)]; exact g, by rw [n2_more m (by omega)]; exact i, by rw [n2_more m (by omega)]; exact j⟩
theorem secE_1 {s : ByteArray} {h : Nat} (e : secE s h = 0) : n8 s (h + 24) ≤ great ∧ n8 s (h + 32) ≤ great ∧ (n4 s (h + 4) ≠ 8 → n8 s (h + 24) + n8 s (h + 32) ≤ s.size) := by
  unfold secE at e
  by_cases h1 : great < n8 s (h + 24) ∨ great < n8 s (h + 32)
  · rw [if_pos h1] at e; cases e
  rw [if_neg h1] at e
  by_cases h2 : n4 s (h + 4) ≠ 8 ∧ s.size < n8 s (h + 24) + n8 s (h + 32)
  · rw [if_pos h2] at e; cases e
  refine ⟨by omega, by omega, fun h8 => ?_⟩
  have : ¬ s.size < n8 s (h + 24) + n8 s (h + 32) := fun k => h2 ⟨h8, k⟩
  omega
theorem segE_more {h : Nat} (hh : h + 56 ≤ s.size) (e : segE s h = 0) : segE (s ++ m) h = 0 ∧ segC (s ++ m) h = segC s h := by
  obtain ⟨a, b, c⟩ := segE_0 e
  constructor
  · unfold segE
    rw [n8_more m (by omega), n8_more m (by omega), if_neg (by omega), if_neg (by rw [ByteArray.size_append]; omega)]
  · unfold segC
    rw [n4_more m (by omega), n4_more m (by omega), n8_more m (by omega), n8_more m (by omega), n8_more m (by omega), n8_more m (by omega), n8_more m (by omega), n8_more m (by omega)]
theorem secE_more {h : Nat} (hh : h + 64 ≤ s.size) (e : secE s h = 0) : secE (s ++ m) h = 0 ∧ secD (s ++ m) h = secD s h ∧ secZ (s ++ m) h = secZ s h := by
  obtain ⟨a, b, c⟩ := secE_1 e
  refine ⟨?_, ?_, ?_⟩
  · unfold secE
    rw [n8_more m (by omega), n8_more m (by omega), n4_more m (by omega), if_neg (by omega), if_neg (by rintro ⟨x, y⟩; have := c x; rw [ByteArray.size_append] at y; omega)]
  · unfold secD
    rw [n8_more m (by omega), n8_more m (by omega), n4_more m (by omega)]
    by_cases h8 : n4 s (h + 4) = 8
    · rw [if_pos h8, if_pos h8]
    · rw [if_neg h8, if_neg h8, ext_more m (c h8)]
  · unfold secZ
    rw [n8_more m (by omega), n4_more m (by omega)]
theorem read_more (h : readE s = 0) : readE (s ++ m) = 0 ∧ readM (s ++ m) = readM s := by
  obtain ⟨h1, h2, h3, h4, h5, h6⟩ := read_is0 h
  obtain ⟨k64, kh⟩ := hd_is h1
  have eP : pAt (s ++ m) = pAt s := n8_more m (by omega)
  have eS : sAt (s ++ m) = sAt s := n8_more m (by omega)
  have eN : nSeg (s ++ m) = nSeg s := n2_more m (by omega)
  have eK : nSec (s ++ m) = nSec s := n2_more m (by omega)
  have two := kh.two
  have hz : (s ++ m).size = s.size + m.size := ByteArray.size_append
  unfold cutB at h2
  simp only [Bool.or_eq_false_iff, Bool.and_eq_false_iff, decide_eq_false_iff_not] at h2
  obtain ⟨c1, c2⟩ := h2
  have eA : ∀ i, segAt (s ++ m) i = segAt s i := fun i => by unfold segAt; rw [eP]
  have eB : ∀ i, secAt (s ++ m) i = secAt s i := fun i => by unfold secAt; rw [eS]
  have bA : ∀ i, i < nSeg s → segAt s i + 56 ≤ s.size := fun i hi => by unfold segAt; omega
  have bB : ∀ i, i < nSec s → secAt s i + 64 ≤ s.size := fun i hi => by unfold secAt; omega
  have two2 : 2 ≤ nSec s := two
  have gA : ∀ i, i < nSeg s → segE s (segAt s i) = 0 := fun i hi => first_0 h3 i (Nat.zero_le _) (by omega)
  have gB : ∀ i, 1 ≤ i → i < nSec s → secE s (secAt s i) = 0 := fun i hi hj => first_0 h5 i hi (by omega)
  have hd' : hdE (s ++ m) = 0 := hd_ok (by omega) (head_more m kh k64)
  have ct' : cutB (s ++ m) = false := by
    unfold cutB
    rw [eN, eK, eP, eS, hz, decide_eq_false (by omega : ¬ s.size + m.size < sAt s + 64 * nSec s), Bool.or_false, Bool.and_eq_false_iff]
    rcases c1 with c1 | c1
    · exact .inl (decide_eq_false c1)
    · exact .inr (decide_eq_false (by omega))
  have sg' : segsE (s ++ m) = 0 := by
    unfold segsE
    rw [eN]
    refine first_all fun j _ hj => ?_
    rw [eA]
    exact (segE_more m (bA j (by omega)) (gA j (by omega))).1
  have z' : ZeroOk (s ++ m) := fun i hi => by
    have hb := bB 0 (by omega)
    unfold secAt at hb
    rw [eS, bt_append_left _ _ _ (by omega)]
    exact h4 i hi
  have sc' : secsE (s ++ m) = 0 := by
    unfold secsE
    rw [eK]
    refine first_all fun j hj hk => ?_
    rw [eB]
    exact (secE_more m (bB j (by omega)) (gB j hj (by omega))).1
  have eL : lastD (s ++ m) = lastD s := by
    unfold lastD
    rw [eK, eB]
    exact (secE_more m (bB _ (by omega)) (gB _ (by omega) (by omega))).2.1
  have eM : ∀ i, i < nSec s → namP (s ++ m) i = namP s i := fun i hi => by
    have := bB i hi
    unfold namP
    rw [eB]
    exact n4_more m (by omega)
  have nm' : NamesOk (s ++ m) := by
    refine ⟨?_, fun i a b => ?_, ?_⟩
    · have := bB (nSec s - 1) (by omega)
      rw [eK, eB, n4_more m (by omega)]
      exact h6.typ
    · rw [eK] at b
      rw [eL, eM i b]
      exact h6.all i a b
    · rw [eL, eK, eM _ (by omega)]
      exact h6.own
  obtain ⟨e1, e2⟩ := read_ok hd' ct' sg' z' sc' nm'
  refine ⟨e1, ?_⟩
  rw [e2, readM, if_pos h]
  unfold modelP
  have l1 : segL (s ++ m) = segL s := by
    unfold segL
    rw [eN]
    refine List.map_congr_left fun i hi => ?_
    have hi := List.mem_range.1 hi
    rw [eA]
    exact (segE_more m (bA i hi) (gA i hi)).2
  have l2 : secL (s ++ m) = secL s := by
    unfold secL
    rw [eK]
    refine List.map_congr_left fun i hi => ?_
    have hi := List.mem_range.1 hi
    have hb := bB (i + 1) (by omega)
    obtain ⟨-, x, y⟩ := secE_more m hb (gB (i + 1) (by omega) (by omega))
    rw [eB, eL, eM _ (by omega), x]
    unfold secC
    rw [y, n4_more m (by omega), n4_more m (by omega), n4_more m (by omega), n8_more m (by omega), n8_more m (by omega), n8_more m (by omega), n8_more m (by omega)]
  rw [l1, l2, n2_more m (by omega), n2_more m (by omega), n8_more m (by omega), n4_more m (by omega)]
end
/-- A written file that is cut short. -/
theorem Wr.cut {m : ElfR} (h : Wr m) {k : Nat} (hk : k < (writeT m).size) : readE ((writeT m).extract 0 k) = 2 := by
  have hz : ((writeT m).extract 0 k).size = k := by simp; omega
  by_cases h64 : k < 64
  · rw [read_hd (by rw [hd_cut (by omega)]; decide), hd_cut (by omega)]
  have e : (writeT m).extract 0 k ++ (writeT m).extract k (writeT m).size = writeT m := by
    apply ba_ext
    rw [app_list, ext_list, ext_list, List.drop_zero, Nat.sub_zero, List.take_of_length_le (l := List.drop k _) (by rw [List.length_drop, ← size_list]; omega), List.take_append_drop]
  generalize (writeT m).extract k (writeT m).size = r at e
  generalize hs : (writeT m).extract 0 k = s at *
  have q := h.head
  have hsz := writeT_size m
  have a2 : ∀ p, p + 2 ≤ 64 → n2 (writeT m) p = n2 s p := fun p hp => by rw [← e]; exact n2_more r (by omega)
  have a4 : ∀ p, p + 4 ≤ 64 → n4 (writeT m) p = n4 s p := fun p hp => by rw [← e]; exact n4_more r (by omega)
  have a8 : ∀ p, p + 8 ≤ 64 → n8 (writeT m) p = n8 s p := fun p hp => by rw [← e]; exact n8_more r (by omega)
  have hh : HeadOk s := by
    obtain ⟨a, b, c, d, e', f, g, i, j⟩ := q.1
    refine ⟨?_, by rw [← a4 _ (by omega)]; exact b, by rw [← a2 _ (by omega)]; exact c, by rw [← a2 _ (by omega)]; exact d, by rw [← a2 _ (by omega)]; exact e', by rw [← a2 _ (by omega), ← a2 _ (by omega)]; exact f, by rw [← a2 _ (by omega)]; exact g, by rw [← a2 _ (by omega)]; exact i, by rw [← a2 _ (by omega)]; exact j⟩
    rw [← e, ext_more r (by omega)] at a
    exact a
  refine read_cut (hd_ok (by omega) hh) ?_
  unfold cutB
  have es : Go.Proofs.Ytciaebhkemdilaa.sAt s = al8 (endG (allP m.secs) (wP m)) := (a8 40 (by omega)).symm.trans q.2.2.2.2.2.1
  have ek : Go.Proofs.Ytciaebhkemdilaa.nSec s = m.secs.length + 2 := (a2 60 (by omega)).symm.trans q.2.2.2.2.2.2.2.2
  rw [es, ek, decide_eq_true (by omega : s.size < al8 (endG (allP m.secs) (wP m)) + 64 * (m.secs.length + 2)), Bool.or_true]
theorem horn_inj {f g : Nat → Nat} (hf : ∀ i, f i < 256) (hg : ∀ i, g i < 256) : ∀ k, horn f k = horn g k → ∀ i, i < k → f i = g i
  | 0, _, i, hi => by omega
  | k + 1, h, i, hi => by
    rw [horn, horn] at h
    have a := hf k
    have b := hg k
    have e : horn f k = horn g k := by omega
    by_cases hk : i = k
    · subst hk; omega
    · exact horn_inj hf hg k e i (by omega)
theorem num_inj {s t : ByteArray} {p d : Nat} (h : numAt s p d false = numAt t p d false) {j : Nat} (h1 : p ≤ j) (h2 : j < p + d) : bt s j = bt t j := by
  unfold numAt at h
  have k := horn_inj (dig_lt s p d false) (dig_lt t p d false) d h (p + d - 1 - j) (by omega)
  rw [dig, dig, if_neg (by decide), show p + d - 1 - (p + d - 1 - j) = j by omega] at k
  exact k
/-- Which byte is turned. -/
def headK (k : Nat) : Nat := if 20 ≤ k then 32 + k else if 16 ≤ k then 4 + k else k
theorem head_turned {s t : ByteArray} (h : HeadOk s) (hs : 64 ≤ s.size) (ht : 64 ≤ t.size) {k : Nat} (hk : k < 24) (hne : bt t (headK k) ≠ bt s (headK k)) : readE t = 3 := by
  have hb : ¬ HeadOk t := fun g => by
    apply hne
    unfold headK
    by_cases h20 : 20 ≤ k
    · rw [if_pos h20]
      by_cases h22 : k < 22
      · exact num_inj (p := 52) (d := 2) (g.hsz.trans h.hsz.symm) (by omega) (by omega)
      · exact num_inj (p := 54) (d := 2) (g.psz.trans h.psz.symm) (by omega) (by omega)
    · rw [if_neg h20]
      by_cases h16 : 16 ≤ k
      · rw [if_pos h16]
        exact num_inj (p := 20) (d := 4) (g.ver.trans h.ver.symm) (by omega) (by omega)
      · rw [if_neg h16]
        have a := bt_extract s 0 16 k (by omega) (by omega)
        have b := bt_extract t 0 16 k (by omega) (by omega)
        rw [Nat.zero_add, Nat.zero_add] at a b
        rw [h.mag] at a
        rw [g.mag] at b
        exact b.symm.trans a
  rw [read_hd (by rw [hd_bad (by omega) hb]; decide), hd_bad (by omega) hb]
end Go.Proofs.Ytciaebhkemdilaa

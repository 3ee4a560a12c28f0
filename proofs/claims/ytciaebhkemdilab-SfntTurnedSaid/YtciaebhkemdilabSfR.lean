/- What is written is read; what is turned in its Data is not (plain). -/
import Derived.Test.YtciaebhkemdilabSfP
import Derived.Test.YtciaebhkemdilabWinY
namespace Go.Proofs.Ytciaebhkemdilab
open Go.RowKit
set_option linter.unusedVariables false
/-- t stands in s from p on. -/
def Sits (s : ByteArray) (p : Nat) (t : ByteArray) : Prop := ∃ a b : ByteArray, s = a ++ t ++ b ∧ a.size = p
section
variable {s t u : ByteArray} {p q : Nat}
theorem Sits.le (h : Sits s p t) : p + t.size ≤ s.size := by
  obtain ⟨a, b, rfl, rfl⟩ := h
  rw [ByteArray.size_append, ByteArray.size_append]; omega
theorem Sits.left (h : Sits s p (t ++ u)) : Sits s p t := by
  obtain ⟨a, b, rfl, rfl⟩ := h
  exact ⟨a, u ++ b, by simp only [app_as], rfl⟩
theorem Sits.right (h : Sits s p (t ++ u)) : Sits s (p + t.size) u := by
  obtain ⟨a, b, rfl, rfl⟩ := h
  exact ⟨a ++ t, b, by simp only [app_as], by rw [ByteArray.size_append]⟩
theorem Sits.all (s : ByteArray) : Sits s 0 s := ⟨⟨#[]⟩, ⟨#[]⟩, by rw [nil_app, app_nil], rfl⟩
theorem Sits.trans (h : Sits s p t) (k : Sits t q u) : Sits s (p + q) u := by
  obtain ⟨a, b, rfl, rfl⟩ := h
  obtain ⟨c, d, rfl, rfl⟩ := k
  exact ⟨a ++ c, d ++ b, by simp only [app_as], by rw [ByteArray.size_append]⟩
theorem Sits.ext (h : Sits s p t) : s.extract p (p + t.size) = t := by
  obtain ⟨a, b, rfl, rfl⟩ := h
  exact ext_mid a t b _ _ rfl rfl
theorem Sits.bt (h : Sits s p t) {i : Nat} (hi : i < t.size) : bt s (p + i) = Go.Proofs.Ytciaebhkemdilab.bt t i := by
  obtain ⟨a, b, rfl, rfl⟩ := h
  rw [bt_append_left _ _ _ (by rw [ByteArray.size_append]; omega), bt_append_right _ _ _ hi]
theorem Sits.num {m d : Nat} (h : Sits s p (bytesS m d true)) (hm : m < 2 ^ (8 * d)) : numAt s p d true = m := by
  obtain ⟨a, b, rfl, rfl⟩ := h
  exact num_back m d true a b (Nat.div_eq_of_lt hm)
theorem Sits.step {n : Nat} (k : Sits s p (t ++ u)) (hn : t.size = n) (hq : p + n = q) : Sits s q u := by
  have := k.right
  rw [hn, hq] at this
  exact this
end
theorem ba_bt {a b : ByteArray} (hz : a.size = b.size) (h : ∀ j, j < a.size → bt a j = bt b j) : a = b := by
  refine ba_ext (List.ext_getElem (by rw [← size_list, ← size_list, hz]) fun j h1 h2 => ?_)
  have e := h j (by rw [size_list]; exact h1)
  rw [bt_eq a j (by rw [size_list]; exact h1), bt_eq b j (by rw [size_list]; exact h2)] at e
  exact UInt8.toNat_inj.1 e
theorem bt_ext (s : ByteArray) (p q j : Nat) (hq : q ≤ s.size) (hj : p + j < q) : bt (s.extract p q) j = bt s (p + j) := by
  have h1 : j < (s.extract p q).size := by simp; omega
  rw [bt_eq _ j h1, bt_eq s (p + j) (by omega), ByteArray.getElem_extract]
theorem byt_out (s : ByteArray) (k : Nat) (h : s.size ≤ k) : byt s k = 0 := by
  unfold byt
  rw [List.getD_eq_getElem?_getD, List.getElem?_eq_none (by rw [← size_list]; exact h)]
  rfl
theorem bt_byt (s : ByteArray) (k : Nat) (h : k < s.size) : byt s k = bt s k := by rw [byt_at s k h, bt_eq s k h]
/-- A file that is written, but for the bytes of its Data. -/
structure FileS (s : ByteArray) (k : Nat) (l : List ChkR) : Prop where
  kind : kindB k = true
  may : MayL l
  size : s.size = eAt l.length + offN l l.length
  lead : s.extract 0 (eAt l.length) = headT k l.length ++ rowsN l l.length l.length
theorem rows_sit {l : List ChkR} (n : Nat) : ∀ {k i : Nat}, (∀ j, j < k → typB (tb l j).typ = true) → i < k → Sits (rowsN l n k) (16 * i) (rowT (tb l i) (eAt n + offN l i))
  | 0, i, _, h => by omega
  | k + 1, i, ht, h => by
    by_cases e : i = k
    · subst e
      exact ⟨rowsN l n i, ⟨#[]⟩, by rw [app_nil]; rfl, rowsN_size n fun j hj => ht j (by omega)⟩
    · obtain ⟨a, b, h1, h2⟩ := rows_sit n (fun j hj => ht j (by omega)) (show i < k by omega)
      refine ⟨a, b ++ rowT (tb l k) (eAt n + offN l k), ?_, h2⟩
      show rowsN l n k ++ rowT (tb l k) (eAt n + offN l k) = _
      rw [h1]
      simp only [app_as]
section
variable {s : ByteArray} {k : Nat} {l : List ChkR}
theorem FileS.front (h : FileS s k l) : Sits s 0 (headT k l.length ++ rowsN l l.length l.length) := by
  refine ⟨⟨#[]⟩, s.extract (eAt l.length) s.size, ?_, rfl⟩
  rw [nil_app, ← h.lead]
  refine ba_ext ?_
  rw [app_list, ext_list, ext_list]
  have hs : s.data.toList.length = eAt l.length + offN l l.length := by rw [← size_list]; exact h.size
  rw [List.drop_zero, Nat.sub_zero]
  conv => lhs; rw [← List.take_append_drop (eAt l.length) s.data.toList]
  congr 1
  rw [List.take_of_length_le (by rw [List.length_drop, hs]; rw [h.size]; exact Nat.le_refl _)]
theorem FileS.head (h : FileS s k l) : Sits s 0 (headT k l.length) := h.front.left
theorem FileS.b4 (h : FileS s k l) : b4 s 0 = k := by
  have h1 := h.head
  unfold headT at h1
  exact h1.left.left.left.left.num (by have := kindB_lt h.kind; omega)
theorem FileS.b2 (h : FileS s k l) : b2 s 4 = l.length := by
  have h1 := h.head
  unfold headT at h1
  exact (h1.left.left.left.step (bytesS_size _ _ _) rfl).num (by have := h.may.few; omega)
theorem FileS.leadE (h : FileS s k l) : leadE s = 0 := by
  have hz := h.size
  have h12 := h.head.ext
  rw [headT_size] at h12
  refine head_ok (by unfold eAt at hz; omega) ⟨by rw [h.b4]; exact h.kind, by rw [h.b2]; exact h.may.one, by rw [h.b2]; exact h.may.few, by rw [h.b4, h.b2]; exact h12⟩
theorem FileS.row (h : FileS s k l) {i : Nat} (hi : i < l.length) : Sits s (eAt i) (rowT (tb l i) (eAt l.length + offN l i)) := by
  have h1 := (h.front.step (headT_size _ _) (Nat.zero_add 12)).trans (rows_sit l.length h.may.tag hi)
  exact h1
theorem FileS.off_lt (h : FileS s k l) {i : Nat} (hi : i ≤ l.length) : offN l i < 1073741824 := by
  have := offN_mono l hi
  have := h.may.all
  omega
theorem FileS.eAt_le (h : FileS s k l) : eAt l.length ≤ 16012 := by have := h.may.few; unfold eAt; omega
theorem FileS.tag (h : FileS s k l) {i : Nat} (hi : i < l.length) : tagOf s i = (tb l i).typ := by
  have h1 := h.row hi
  unfold rowT at h1
  have h2 := h1.left.left.left.ext
  rw [typ_size (h.may.tag i hi)] at h2
  exact h2
theorem FileS.sum (h : FileS s k l) {i : Nat} (hi : i < l.length) : sumOf s i = wrdT (tb l i).dat := by
  have h1 := h.row hi
  unfold rowT at h1
  exact (h1.left.left.step (typ_size (h.may.tag i hi)) rfl).num (wrdT_lt _)
theorem FileS.at (h : FileS s k l) {i : Nat} (hi : i < l.length) : atOf s i = eAt l.length + offN l i := by
  have h1 := h.row hi
  unfold rowT at h1
  have h2 := h.off_lt (i := i) (by omega)
  have h3 := h.eAt_le
  exact (h1.left.step (q := eAt i + 8) (by rw [ByteArray.size_append, bytesS_size, typ_size (h.may.tag i hi)]) rfl).num (by omega)
theorem FileS.len (h : FileS s k l) {i : Nat} (hi : i < l.length) : lenOf s i = (tb l i).dat.size := by
  have h1 := h.row hi
  unfold rowT at h1
  have h2 := h.may.big i hi
  exact (h1.step (q := eAt i + 12) (by rw [ByteArray.size_append, ByteArray.size_append, bytesS_size, bytesS_size, typ_size (h.may.tag i hi)]) rfl).num (by omega)
theorem FileS.form (h : FileS s k l) {i : Nat} (hi : i < l.length) : formB s i = true := by
  unfold formB
  rw [h.tag hi, h.may.tag i hi, h.at hi, h.len hi, decide_eq_true (h.may.big i hi), Bool.true_and, Bool.and_true, Bool.and_eq_true, decide_eq_true_eq]
  constructor
  · cases i with
    | zero => rfl
    | succ i =>
      have ho := h.may.ord (i + 1) hi
      show ltT (tagOf s i) (tagOf s (i + 1)) = true
      rw [h.tag hi, h.tag (show i < l.length by omega)]
      exact ho
  · have := offN_mod l i
    unfold eAt; omega
theorem FileS.fits (h : FileS s k l) {i : Nat} (hi : i < l.length) : ¬ s.size < atOf s i + up4 (lenOf s i) := by
  rw [h.at hi, h.len hi, h.size]
  have := offN_mono l (show i + 1 ≤ l.length by omega)
  rw [offN] at this
  omega
theorem mem_putIn {L : List PartR} {p x : PartR} (h : x ∈ putIn L p) : x = p ∨ x ∈ L := by
  unfold putIn at h
  rcases List.mem_append.1 h with h | h
  · exact .inr (List.mem_of_mem_take h)
  · rcases List.mem_cons.1 h with h | h
    · exact .inl h
    · exact .inr (List.mem_of_mem_drop h)
theorem add_behind {L : List PartR} (hR : Rising L) {lo hi : Nat} (h : ∀ y ∈ L, y.hi ≤ lo) (h1 : lo < hi) (h2 : hi ≤ 4611686018427387904) (x : Int) : addE L (lo : Int) (hi : Int) = 0 ∧ ∀ y ∈ addL L (lo : Int) (hi : Int) x, y.hi ≤ hi := by
  have hs : spB (lo : Int) (hi : Int) = true := decide_eq_true ⟨by omega, by omega, by omega⟩
  have hc : clashB L (lo : Int) (hi : Int) = false := by
    rw [clash_eq hR]
    unfold rclashB
    rw [hs, Bool.true_and, List.any_eq_false]
    intro y hy
    have := h y hy
    unfold hitB
    rw [decide_eq_false (by omega)]
    simp
  constructor
  · unfold addE
    rw [if_pos hs, hc, if_neg (by decide)]
  · intro y hy
    unfold addL at hy
    rw [hs, hc, if_pos (by decide)] at hy
    rcases mem_putIn hy with rfl | hy
    · show (hi : Int).toNat ≤ hi
      omega
    · have := h y hy
      omega
theorem FileS.spans (h : FileS s k l) : ∀ {i : Nat}, i ≤ l.length → ∀ y ∈ spnL s l.length i, y.hi ≤ eAt l.length + offN l i
  | 0, _, y, hy => by
    rw [List.mem_singleton.1 hy]
    show 12 + 16 * l.length ≤ _
    unfold eAt; omega
  | i + 1, hi, y, hy => by
    have ih := h.spans (i := i) (by omega)
    rw [spnL, h.len (show i < l.length by omega), h.at (show i < l.length by omega)] at hy
    rw [offN]
    by_cases h0 : up4 (tb l i).dat.size = 0
    · rw [if_pos h0] at hy
      have := ih y hy
      omega
    · rw [if_neg h0] at hy
      have := h.off_lt (i := i + 1) hi
      rw [offN] at this
      have h3 := h.eAt_le
      have := (add_behind (spnL_rising (by have := h.may.few; omega) i) ih (show eAt l.length + offN l i < eAt l.length + offN l i + up4 (tb l i).dat.size by omega) (by omega) i).2 y hy
      omega
theorem FileS.free (h : FileS s k l) {i : Nat} (hi : i < l.length) : lenOf s i ≠ 0 → addE (spnL s l.length i) (atOf s i) ((atOf s i + up4 (lenOf s i) : Nat) : Int) = 0 := fun h0 => by
  have := h.off_lt (i := i + 1) hi
  rw [offN] at this
  have h3 := h.eAt_le
  rw [h.len hi] at h0 ⊢
  rw [h.at hi]
  have hu := up4_ge (tb l i).dat.size
  exact (add_behind (spnL_rising (by have := h.may.few; omega) i) (h.spans (by omega)) (by omega) (by omega) i).1
/-- What is left to be told of an entry: its padding, its sum. -/
theorem FileS.tabE (h : FileS s k l) {i : Nat} (hi : i < l.length) : tabE s l.length i = if zeroB s (atOf s i + lenOf s i) (atOf s i + up4 (lenOf s i)) = false then 3 else if wrdT (datOf s i) ≠ sumOf s i then 4 else 0 := by
  cases hz : zeroB s (atOf s i + lenOf s i) (atOf s i + up4 (lenOf s i)) with
  | false => rw [if_pos rfl]; exact tab_zero (h.form hi) (h.fits hi) hz
  | true =>
    rw [if_neg (by decide)]
    by_cases hw : wrdT (datOf s i) ≠ sumOf s i
    · rw [if_pos hw]; exact tab_sum (h.form hi) (h.fits hi) hz (h.free hi) hw
    · rw [if_neg hw]; exact tab_ok (h.form hi) (h.fits hi) hz (h.free hi) (by simpa using hw)
theorem FileS.all (h : FileS s k l) : ∀ {i : Nat}, i ≤ l.length → allN s i = offN l i
  | 0, _ => rfl
  | i + 1, hi => by rw [allN, offN, h.all (show i ≤ l.length by omega), h.len (show i < l.length by omega)]
theorem FileS.readE (h : FileS s k l) : readE s = tabsE s l.length := by
  have hz := h.size
  by_cases ht : tabsE s l.length ≠ 0
  · have := read_tab h.leadE (by rw [h.b2]; omega) (by rw [h.b2]; exact ht)
    rwa [h.b2] at this
  · have ht0 : tabsE s l.length = 0 := by simpa using ht
    rw [ht0]
    refine read_ok h.leadE (by rw [h.b2]; omega) (by rw [h.b2]; exact ht0) ?_
    rw [h.b2, h.all (Nat.le_refl _)]
    have := h.may.all
    omega
/-! Written, and read again. -/
theorem dats_sit (l : List ChkR) : ∀ {k i : Nat}, i < k → Sits (datsN l k) (offN l i) (padT (tb l i).dat)
  | 0, i, h => by omega
  | k + 1, i, h => by
    by_cases e : i = k
    · subst e
      exact ⟨datsN l i, ⟨#[]⟩, by rw [app_nil]; rfl, datsN_size l i⟩
    · obtain ⟨a, b, h1, h2⟩ := dats_sit l (show i < k by omega)
      refine ⟨a, b ++ padT (tb l k).dat, ?_, h2⟩
      show datsN l k ++ padT (tb l k).dat = _
      rw [h1]
      simp only [app_as]
theorem front_size (h : MayL l) (k : Nat) : (headT k l.length ++ rowsN l l.length l.length).size = eAt l.length := by
  rw [ByteArray.size_append, headT_size, rowsN_size _ h.tag]; rfl
theorem file_of (hk : kindB k = true) (h : MayL l) : FileS (writeT l k) k l := by
  refine ⟨hk, h, writeT_size h k, ?_⟩
  unfold writeT
  exact ext_pre _ _ _ (front_size h k).symm
theorem write_dat (h : MayL l) (k : Nat) {i : Nat} (hi : i < l.length) : Sits (writeT l k) (eAt l.length + offN l i) (padT (tb l i).dat) := by
  have h1 : Sits (writeT l k) (eAt l.length) (datsN l l.length) := by
    refine ⟨headT k l.length ++ rowsN l l.length l.length, ⟨#[]⟩, by rw [app_nil]; rfl, front_size h k⟩
  exact h1.trans (dats_sit l hi)
theorem zeros_bt (n j : Nat) : bt (zerosT n) j = 0 := by
  unfold bt
  split
  · simp [zerosT]
    show ((List.replicate n (0 : UInt8)).toArray[j]'_).toNat = 0
    simp
  · rfl
theorem write_at (hk : kindB k = true) (h : MayL l) {i : Nat} (hi : i < l.length) : datOf (writeT l k) i = (tb l i).dat ∧ zeroB (writeT l k) (atOf (writeT l k) i + lenOf (writeT l k) i) (atOf (writeT l k) i + up4 (lenOf (writeT l k) i)) = true := by
  have hF := file_of hk h
  have h1 := write_dat h k hi
  unfold padT at h1
  unfold datOf zeroB
  rw [hF.at hi, hF.len hi]
  refine ⟨h1.left.ext, decide_eq_true fun j hj => ?_⟩
  have h2 := h1.right
  rw [h2.bt (by rw [zerosT_size]; omega), zeros_bt]
theorem list_tb {l m : List ChkR} (hl : l.length = m.length) (h : ∀ i, i < l.length → tb l i = tb m i) : l = m := by
  refine List.ext_getElem hl fun i h1 h2 => ?_
  have := h i h1
  rwa [tb_get h1, tb_get h2] at this
theorem read_write (hk : kindB k = true) (h : MayL l) : readE (writeT l k) = 0 ∧ readL (writeT l k) = l ∧ readK (writeT l k) = k := by
  have hF := file_of hk h
  have h0 : readE (writeT l k) = 0 := by
    rw [hF.readE]
    refine first_all fun j _ hj => ?_
    rw [Nat.zero_add] at hj
    obtain ⟨h1, h2⟩ := write_at hk h hj
    rw [hF.tabE hj, h2, if_neg (by decide), h1, hF.sum hj, if_neg (fun q => q rfl)]
  refine ⟨h0, ?_, by rw [readK_ok h0, hF.b4]⟩
  rw [readL_ok h0, hF.b2]
  refine list_tb (tabsL_len _ _) fun i hi => ?_
  rw [tabsL_len] at hi
  rw [tb_get (by rw [tabsL_len]; exact hi)]
  have e : (tabsL (writeT l k) l.length)[i]'(by rw [tabsL_len]; exact hi) = tabOf (writeT l k) i := by simp [tabsL]
  rw [e]
  unfold tabOf
  rw [(write_at hk h hi).1, hF.tag hi]
/-! One byte of the Data is another. -/
theorem wrd_first {s t : ByteArray} : ∀ {k : Nat}, (∀ j, j < k → byt s j = byt t j) → wrdN s k = wrdN t k
  | 0, _ => rfl
  | k + 1, h => by rw [wrdN_succ, wrdN_succ, wrd_first fun j hj => h j (by omega), h k (by omega)]
theorem wrd_other {s t : ByteArray} {q : Nat} (h : ∀ j, j ≠ q → byt s j = byt t j) (hq : byt s q ≠ byt t q) : ∀ {k : Nat}, q < k → wrdN s k ≠ wrdN t k
  | 0, hk => by omega
  | k + 1, hk => by
    rw [wrdN_succ, wrdN_succ]
    have a1 := wrdN_lt s k
    have a2 := wrdN_lt t k
    by_cases e : k = q
    · subst e
      rw [wrd_first (s := s) (t := t) fun j hj => h j (by omega)]
      have b1 := byt_lt s k
      have b2 := byt_lt t k
      rcases (show k % 4 = 0 ∨ k % 4 = 1 ∨ k % 4 = 2 ∨ k % 4 = 3 by omega) with c | c | c | c <;> rw [c]
      · rw [show (2 : Nat) ^ (24 - 0 * 8) = 16777216 by decide]; omega
      · rw [show (2 : Nat) ^ (24 - 1 * 8) = 65536 by decide]; omega
      · rw [show (2 : Nat) ^ (24 - 2 * 8) = 256 by decide]; omega
      · rw [show (2 : Nat) ^ (24 - 3 * 8) = 1 by decide]; omega
    · have ih := wrd_other h hq (show q < k by omega)
      rw [h k e]
      omega
theorem first_some {f : Nat → Int} : ∀ {n i : Nat}, (∀ j, i ≤ j → j < i + n → f j = 0 ∨ f j = 3 ∨ f j = 4) → (∃ j, i ≤ j ∧ j < i + n ∧ f j ≠ 0) → firstE f n i = 3 ∨ firstE f n i = 4
  | 0, i, _, ⟨j, a, b, _⟩ => by omega
  | n + 1, i, h, ⟨j, a, b, c⟩ => by
    rw [firstE]
    by_cases h0 : f i ≠ 0
    · rw [if_pos h0]
      rcases h i (Nat.le_refl _) (by omega) with e | e | e
      · exact absurd e h0
      · exact .inl e
      · exact .inr e
    · rw [if_neg h0]
      refine first_some (fun j a b => h j (by omega) (by omega)) ⟨j, ?_, by omega, c⟩
      by_cases e : j = i
      · subst e; exact absurd c h0
      · omega
theorem off_in (l : List ChkR) : ∀ {n q : Nat}, q < offN l n → ∃ i, i < n ∧ offN l i ≤ q ∧ q < offN l (i + 1)
  | 0, q, h => by exact absurd h (Nat.not_lt_zero _)
  | n + 1, q, h => by
    by_cases e : q < offN l n
    · obtain ⟨i, a, b, c⟩ := off_in l e
      exact ⟨i, by omega, b, c⟩
    · exact ⟨n, by omega, by omega, h⟩
theorem turned (hk : kindB k = true) (h : MayL l) {s : ByteArray} {p : Nat} (hz : s.size = (writeT l k).size) (hp : eAt l.length ≤ p) (hp2 : p < s.size) (ho : ∀ j, j ≠ p → bt s j = bt (writeT l k) j) (hn : bt s p ≠ bt (writeT l k) p) : readE s = 3 ∨ readE s = 4 := by
  have hW := file_of hk h
  have hF : FileS s k l := by
    refine ⟨hk, h, by rw [hz, hW.size], ?_⟩
    rw [← hW.lead]
    have h1 := hW.size
    refine ba_bt (by simp; omega) fun j hj => ?_
    have hj2 : j < eAt l.length := by simp at hj; omega
    rw [bt_ext s 0 _ j (by omega) (by omega), bt_ext _ 0 _ j (by omega) (by omega)]
    exact ho _ (by omega)
  rw [hF.readE]
  have hs := hF.size
  obtain ⟨i, hi, h1, h2⟩ := off_in l (show p - eAt l.length < offN l l.length by omega)
  refine first_some (fun j _ hj => ?_) ⟨i, Nat.zero_le _, by omega, ?_⟩
  · rw [hF.tabE (by omega)]
    split
    · exact .inr (.inl rfl)
    · split
      · exact .inr (.inr rfl)
      · exact .inl rfl
  · rw [hF.tabE hi, hF.at hi, hF.len hi, hF.sum hi]
    rw [offN] at h2
    have hu := up4_ge (tb l i).dat.size
    have hm := offN_mono l (show i + 1 ≤ l.length by omega)
    rw [offN] at hm
    by_cases hd : p - eAt l.length - offN l i < (tb l i).dat.size
    · have hw : wrdT (datOf s i) ≠ wrdT (tb l i).dat := by
        have e1 : datOf s i = s.extract (eAt l.length + offN l i) (eAt l.length + offN l i + (tb l i).dat.size) := by unfold datOf; rw [hF.at hi, hF.len hi]
        have e2 := (write_at hk h hi).1
        have e3 : datOf (writeT l k) i = (writeT l k).extract (eAt l.length + offN l i) (eAt l.length + offN l i + (tb l i).dat.size) := by unfold datOf; rw [hW.at hi, hW.len hi]
        have z1 : (datOf s i).size = (tb l i).dat.size := by rw [e1]; simp; omega
        have key : ∀ j, j < (tb l i).dat.size → byt (datOf s i) j = bt s (eAt l.length + offN l i + j) ∧ byt (tb l i).dat j = bt (writeT l k) (eAt l.length + offN l i + j) := fun j hj => by
          constructor
          · rw [bt_byt _ _ (by omega), e1]
            exact bt_ext s _ _ j (by omega) (by omega)
          · rw [bt_byt _ _ hj]
            conv => lhs; rw [← e2, e3]
            exact bt_ext _ _ _ j (by rw [← hz]; omega) (by omega)
        have out : ∀ (d : ByteArray) j, d.size ≤ j → byt d j = 0 := byt_out
        unfold wrdT
        rw [z1]
        refine wrd_other (q := p - eAt l.length - offN l i) (fun j hj => ?_) ?_ hd
        · by_cases hj2 : j < (tb l i).dat.size
          · rw [(key j hj2).1, (key j hj2).2]
            exact ho _ (by omega)
          · rw [out _ j (by omega), out _ j (by omega)]
        · rw [(key _ hd).1, (key _ hd).2, show eAt l.length + offN l i + (p - eAt l.length - offN l i) = p by omega]
          exact hn
      split
      · decide
      · first | decide | (rw [if_pos hw]; decide)
    · have hzr : zeroB s (eAt l.length + offN l i + (tb l i).dat.size) (eAt l.length + offN l i + up4 (tb l i).dat.size) = false := by
        refine decide_eq_false fun q => hn ?_
        have h5 := q (p - (eAt l.length + offN l i + (tb l i).dat.size)) (by omega)
        have h6 := of_decide_eq_true (write_at hk h hi).2 (p - (eAt l.length + offN l i + (tb l i).dat.size)) (by rw [hW.at hi, hW.len hi]; omega)
        rw [hW.at hi, hW.len hi] at h6
        rw [show eAt l.length + offN l i + (tb l i).dat.size + (p - (eAt l.length + offN l i + (tb l i).dat.size)) = p by omega] at h5 h6
        rw [h5, h6]
      rw [if_pos hzr]; decide
/-! The sum of all words. -/
theorem wrd_zeros (d : ByteArray) (n : Nat) : ∀ j, wrdN (d ++ zerosT n) (d.size + j) = wrdN d d.size
  | 0 => wrdN_left _ _ _ (Nat.le_refl _)
  | j + 1 => by
    have h0 : byt (zerosT n) j = 0 := by
      by_cases hj : j < (zerosT n).size
      · rw [bt_byt _ _ hj, zeros_bt]
      · exact byt_out _ _ (by omega)
    rw [show d.size + (j + 1) = d.size + j + 1 from rfl, wrdN_succ, wrd_zeros d n j, byt_right, h0, Nat.zero_mul, Nat.add_zero]
    exact Nat.mod_eq_of_lt (wrdN_lt _ _)
theorem wrd_pad (d : ByteArray) : wrdT (padT d) = wrdT d := by
  unfold wrdT
  have := wrd_zeros d (up4 d.size - d.size) (up4 d.size - d.size)
  rw [show d.size + (up4 d.size - d.size) = (padT d).size by rw [padT_size]; have := up4_ge d.size; omega] at this
  exact this
/-- The words of the first k tables' Data, behind x. -/
def sumsN (l : List ChkR) (x : Nat) : Nat → Nat
  | 0 => x
  | k + 1 => (sumsN l x k + wrdT (tb l k).dat) % 4294967296
theorem sums_dats (l : List ChkR) (a : ByteArray) (h4 : a.size % 4 = 0) : ∀ k, wrdT (a ++ datsN l k) = sumsN l (wrdT a) k
  | 0 => by show wrdT (a ++ ⟨#[]⟩) = _; rw [app_nil]; rfl
  | k + 1 => by
    show wrdT (a ++ (datsN l k ++ padT (tb l k).dat)) = _
    rw [← app_as]
    have h := wrdN_append (a ++ datsN l k) (padT (tb l k).dat) (by rw [ByteArray.size_append, datsN_size]; have := offN_mod l k; omega)
    have h1 := sums_dats l a h4 k
    unfold wrdT at h1 ⊢
    rw [h]
    have h2 := wrd_pad (tb l k).dat
    unfold wrdT at h2
    rw [h1, h2]
    rfl
theorem words_write (h : MayL l) (k : Nat) : wrdT (writeT l k) = sumsN l (wrdT ((writeT l k).extract 0 (eAt l.length))) l.length := by
  have e : (writeT l k).extract 0 (eAt l.length) = headT k l.length ++ rowsN l l.length l.length := by
    unfold writeT
    exact ext_pre _ _ _ (front_size h k).symm
  rw [e]
  refine sums_dats l _ ?_ _
  rw [front_size h]
  unfold eAt; omega
theorem write_mod (h : MayL l) (k : Nat) : (writeT l k).size % 4 = 0 := by
  rw [writeT_size h]
  have := offN_mod l l.length
  unfold eAt; omega
end
end Go.Proofs.Ytciaebhkemdilab

import Derived.Test.YtaihojjocmdgbaaDoorInfO
import Derived.Test.YtaihojjocmdgbaaDoorStZ
/- Inflate, plain: a block as it is, laid ahead. -/
namespace Go.Proofs.YtaihojjocmdgbaaDoor
set_option linter.unusedVariables false
/-- The five bytes in front of a block as it is, that is not the last. -/
def hd5 (k : Nat) : ByteArray := ⟨#[0, UInt8.ofNat k, UInt8.ofNat (k / 256), UInt8.ofNat (255 - k % 256), UInt8.ofNat (255 - k / 256)]⟩
theorem bytes16 (t : ByteArray) (i : Nat) (h : i + 1 < t.size) : bv t (8 * i) 16 = t[i].toNat + 256 * t[i + 1].toNat := by
  rw [show (16 : Nat) = 8 + 8 by rfl, bv_add, bv_byte t i (by omega), show 8 * i + 8 = 8 * (i + 1) by omega, bv_byte t (i + 1) h]
theorem ahead_get (u s : ByteArray) (k i : Nat) (hi : i < 5) : ∃ h : i < (hd5 k ++ u ++ s).size, (hd5 k ++ u ++ s)[i]'h = (hd5 k).data[i]'(by show i < 5; exact hi) := by
  have h5 : (hd5 k).size = 5 := rfl
  refine ⟨by simp; omega, ?_⟩
  rw [ByteArray.getElem_append_left (by simp; omega), ByteArray.getElem_append_left (by omega)]
  rfl
theorem ahead_step (u s : ByteArray) (hu : u.size ≤ 20000) (M : Nat) (hM : u.size ≤ M) : step (hd5 u.size ++ u ++ s) M ⟨.top, 0, []⟩ = .go ⟨.top, 8 * (5 + u.size), u.data.toList⟩ := by
  obtain ⟨k, hk⟩ : ∃ k, u.size = k := ⟨_, rfl⟩
  rw [hk] at hu hM ⊢
  have h5 : (hd5 k).size = 5 := rfl
  have hz : (hd5 k ++ u ++ s).size = 5 + k + s.size := by simp [h5, hk]
  obtain ⟨b0, e0⟩ := ahead_get u s k 0 (by omega)
  obtain ⟨b1, e1⟩ := ahead_get u s k 1 (by omega)
  obtain ⟨b2, e2⟩ := ahead_get u s k 2 (by omega)
  obtain ⟨b3, e3⟩ := ahead_get u s k 3 (by omega)
  obtain ⟨b4, e4⟩ := ahead_get u s k 4 (by omega)
  have hb : bv (hd5 k ++ u ++ s) (8 * 0) 8 = 0 := by rw [bv_byte _ 0 b0, e0]; rfl
  have hb1 : bv (hd5 k ++ u ++ s) 0 1 = 0 := by
    have := bv_part (hd5 k ++ u ++ s) 0 8 0 1 (by omega)
    rw [← this, show (0 : Nat) = 8 * 0 by rfl, hb]
  have hb2 : bv (hd5 k ++ u ++ s) (0 + 1) 2 = 0 := by
    have := bv_part (hd5 k ++ u ++ s) 0 8 1 2 (by omega)
    rw [← this, show (0 : Nat) = 8 * 0 by rfl, hb]
  have hn : bv (hd5 k ++ u ++ s) (8 * 1) 16 = k := by
    rw [bytes16 _ 1 b2, e1, e2]
    show (UInt8.ofNat k).toNat + 256 * (UInt8.ofNat (k / 256)).toNat = k
    simp only [UInt8.toNat_ofNat']
    omega
  have hm : bv (hd5 k ++ u ++ s) (8 * 3) 16 = 65535 - k := by
    rw [bytes16 _ 3 b4, e3, e4]
    show (UInt8.ofNat (255 - k % 256)).toNat + 256 * (UInt8.ofNat (255 - k / 256)).toNat = 65535 - k
    simp only [UInt8.toNat_ofNat']
    omega
  have hcut : cut (hd5 k ++ u ++ s) 5 k = u.data.toList := by
    rw [cut_list]
    have hl : u.data.toList.length = k := by rw [← hk]; simp
    have : (hd5 k ++ u ++ s).data.toList = (hd5 k).data.toList ++ (u.data.toList ++ s.data.toList) := by simp
    rw [this, List.drop_append_of_le_length (by show 5 ≤ 5; omega), List.drop_of_length_le (by show 5 ≤ 5; omega), List.nil_append, List.take_append_of_le_length (by omega), List.take_of_length_le (by omega)]
  rw [step_top]
  unfold stTop
  rw [num_ok (by omega), num_ok (by omega), hb1, hb2, if_pos rfl]
  unfold stStored
  rw [show upK (0 + 1 + 2) = 8 * 1 by rfl, num_ok (by omega), show 8 * 1 + 16 = 8 * 3 by rfl, num_ok (by omega), hn, hm, if_pos rfl, show (8 * 3 + 16) / 8 = 5 by rfl, if_pos (by omega), if_neg (by show ¬ M < 0 + k; omega), hcut]
  show aft false (8 * 3 + 16 + 8 * k) ([] ++ u.data.toList) = _
  rw [show 8 * 3 + 16 + 8 * k = 8 * (5 + k) by omega]
  rfl
theorem ahead_ahd (u s : ByteArray) : Ahd s (hd5 u.size ++ u ++ s) (5 + u.size) := by
  have h5 : (hd5 u.size).size = 5 := rfl
  refine ⟨by simp [h5], ?_⟩
  have hl : u.data.toList.length = u.size := by simp
  have h5l : (hd5 u.size).data.toList.length = 5 := rfl
  have : (hd5 u.size ++ u ++ s).data.toList = ((hd5 u.size).data.toList ++ u.data.toList) ++ s.data.toList := by simp
  rw [this, List.drop_append_of_le_length (by rw [List.length_append, hl, h5l]; exact Nat.le_refl _), List.drop_of_length_le (by rw [List.length_append, hl, h5l]; exact Nat.le_refl _), List.nil_append]
theorem ahead_plain {u s : ByteArray} (hu : u.size ≤ 20000) {a b : ByteArray} {n m f : Int} (h : InfR s 100000 a n 0) (k : InfR (hd5 u.size ++ u ++ s) 150000 b m f) : f = 0 ∧ b = u ++ a ∧ m = 5 + u.size + n := by
  rcases h with ⟨h0, rfl, rfl, h⟩ | ⟨L1, e1, hL, ⟨k1, o1, ⟨i, hi⟩, rfl, rfl, _⟩ | ⟨_, rfl, rfl, hne⟩⟩
  · cases h
  · obtain rfl : 100000 = L1 := Int.ofNat.inj e1
    rcases k with ⟨k0, _⟩ | ⟨L2, e2, _, k⟩
    · omega
    obtain rfl : 150000 = L2 := Int.ofNat.inj e2
    have hl : u.data.toList.length = u.size := by simp
    have hrun := itr_ahd (A := u.data.toList) (ahead_ahd u s) (L := 100000) (M := 150000) (by omega) i .top 0 [] k1 o1 hi
    rw [Nat.add_zero, List.append_nil] at hrun
    have l1 : Leads (hd5 u.size ++ u ++ s) 150000 start (.fin (8 * (5 + u.size) + k1) (u.data.toList ++ o1)) := ((Leads.refl start).then (ahead_step u s hu 150000 (by omega))).trans ⟨i, hrun⟩
    rcases k with ⟨k2, o2, l2, rfl, rfl, rfl⟩ | ⟨l2, rfl, rfl, _⟩
    · have := l1.unique l2 rfl rfl
      injection this with e3 e4
      subst e3 e4
      refine ⟨rfl, ?_, by omega⟩
      apply ByteArray.ext
      simp
    · have := l1.unique l2 rfl rfl
      cases this
  · exact absurd rfl hne
theorem infR_few {s : ByteArray} {L : Nat} {a : ByteArray} {n : Int} (h : InfR s L a n 0) : a.size ≤ L := by
  rcases h with ⟨h0, rfl, rfl, h⟩ | ⟨L1, e1, hL, ⟨k1, o1, ⟨i, hi⟩, rfl, rfl, _⟩ | ⟨_, rfl, rfl, hne⟩⟩
  · cases h
  · obtain rfl : L = L1 := Int.ofNat.inj e1
    show o1.length ≤ L
    rcases itr_lim (s := s) (Nat.le_refl L) i start k1 o1 (Nat.zero_le _) hi with ⟨h1, h2⟩ | ⟨h1, h2⟩
    · exact h1
    · rw [hi] at h2; cases h2
  · exact absurd rfl hne
end Go.Proofs.YtaihojjocmdgbaaDoor
/- Inflate, plain: blocks as they are, one behind the other. -/
namespace Go.Proofs.YtaihojjocmdgbaaDoor
set_option linter.unusedVariables false
def lb1 (b : Bool) : Nat := if b then 1 else 0
/-- A block as it is: five bytes, and the text. -/
def blkB (last : Bool) (c : List UInt8) : List UInt8 :=
  [UInt8.ofNat (lb1 last), UInt8.ofNat c.length, UInt8.ofNat (c.length / 256), UInt8.ofNat (65535 - c.length), UInt8.ofNat ((65535 - c.length) / 256)] ++ c
theorem blkB_len (last : Bool) (c : List UInt8) : (blkB last c).length = 5 + c.length := by simp [blkB]; omega
theorem lb1_le (b : Bool) : lb1 b ≤ 1 := by cases b <;> decide
theorem leN_blkB (last : Bool) (c : List UInt8) (hc : c.length ≤ 65535) : leN (blkB last c) = lb1 last + 256 * c.length + 16777216 * (65535 - c.length) + 1099511627776 * leN c := by
  have hb := lb1_le last
  show (UInt8.ofNat (lb1 last)).toNat + 256 * ((UInt8.ofNat c.length).toNat + 256 * ((UInt8.ofNat (c.length / 256)).toNat + 256 * ((UInt8.ofNat (65535 - c.length)).toNat + 256 * ((UInt8.ofNat ((65535 - c.length) / 256)).toNat + 256 * leN c)))) = _
  simp only [UInt8.toNat_ofNat']
  omega
theorem lay_blk (bl c : List UInt8) (last : Bool) (hc : c.length ≤ 65535) :
    leN bl + lb1 last * 2 ^ (8 * bl.length) + c.length * 2 ^ (8 * bl.length + 8) + (65535 - c.length) * 2 ^ (8 * bl.length + 24) + leN c * 2 ^ (8 * bl.length + 40) = leN (bl ++ blkB last c) := by
  rw [leN_append, leN_blkB last c hc, Nat.pow_add, Nat.pow_add, Nat.pow_add]
  generalize 2 ^ (8 * bl.length) = P
  generalize 65535 - c.length = m
  rw [show (2 : Nat) ^ 8 = 256 by rfl, show (2 : Nat) ^ 24 = 16777216 by rfl, show (2 : Nat) ^ 40 = 1099511627776 by rfl]
  rw [Nat.mul_add, Nat.mul_add, Nat.mul_add, Nat.mul_comm (lb1 last) P, Nat.mul_left_comm c.length P 256, Nat.mul_left_comm m P 16777216, Nat.mul_left_comm (leN c) P 1099511627776, Nat.mul_comm c.length 256, Nat.mul_comm m 16777216, Nat.mul_comm (leN c) 1099511627776]
  omega
theorem strN_leN (l : List UInt8) : strN (leN l) l.length = ⟨l.toArray⟩ := by
  unfold strN
  congr 2
  apply List.ext_getElem
  · simp
  · intro i h1 h2
    have := leN_byte l i h2
    simp only [List.getElem_map, List.getElem_range]
    unfold hiN
    rw [this]
    simp
theorem pre_get {bl : List UInt8} {t : ByteArray} (h : Pre ⟨bl.toArray⟩ t) (i : Nat) (hi : i < bl.length) : ∃ h2 : i < t.size, t[i]'h2 = bl[i] := by
  obtain ⟨u, hu⟩ := h
  have hl : t.data.toList.length = t.size := by simp
  have hz : i < t.size := by rw [← hl, hu]; simp; omega
  refine ⟨hz, ?_⟩
  have e : t[i]'hz = t.data.toList[i]'(by rw [hl]; exact hz) := by simp; rfl
  rw [e]
  have h3 : t.data.toList[i]? = bl[i]? := by rw [hu]; show (bl ++ u)[i]? = bl[i]?; exact List.getElem?_append_left hi
  rw [List.getElem?_eq_getElem (by rw [hl]; exact hz), List.getElem?_eq_getElem hi] at h3
  exact Option.some.inj h3
/-- A block as it is, read. -/
theorem blk_step (bl c : List UInt8) (last : Bool) (hc : c.length ≤ 65535) {t : ByteArray} (h : Pre ⟨(bl ++ blkB last c).toArray⟩ t) (L : Nat) (out : List UInt8) (hL : out.length + c.length ≤ L) :
    step t L ⟨.top, 8 * bl.length, out⟩ = aft last (8 * (bl ++ blkB last c).length) (out ++ c) := by
  obtain ⟨q, hq⟩ : ∃ q, bl.length = q := ⟨_, rfl⟩
  have hlen : (bl ++ blkB last c).length = q + (5 + c.length) := by rw [List.length_append, blkB_len, hq]
  have hsz := h.size
  have hsz : q + (5 + c.length) ≤ t.size := by rw [← hlen]; exact hsz
  have hb := lb1_le last
  have get : ∀ j (hj : j < 5), ∃ h2 : q + j < t.size, t[q + j]'h2 = (blkB last c)[j]'(by rw [blkB_len]; omega) := fun j hj => by
    obtain ⟨h2, e⟩ := pre_get h (q + j) (by rw [hlen]; omega)
    refine ⟨h2, e.trans ?_⟩
    rw [List.getElem_append_right (by omega)]
    congr 1
    omega
  obtain ⟨g0, e0⟩ := get 0 (by omega)
  obtain ⟨g1, e1⟩ := get 1 (by omega)
  obtain ⟨g2, e2⟩ := get 2 (by omega)
  obtain ⟨g3, e3⟩ := get 3 (by omega)
  obtain ⟨g4, e4⟩ := get 4 (by omega)
  have b0 : bv t (8 * q) 8 = lb1 last := by
    have := bv_byte t (q + 0) g0
    rw [e0] at this
    rw [Nat.add_zero] at this
    rw [this]
    show (UInt8.ofNat (lb1 last)).toNat = _
    rw [UInt8.toNat_ofNat']
    omega
  have b1 : bv t (8 * q) 1 = lb1 last := by
    have := bv_part t (8 * q) 8 0 1 (by omega)
    rw [Nat.add_zero, b0] at this
    rw [← this]; omega
  have b2 : bv t (8 * q + 1) 2 = 0 := by
    have := bv_part t (8 * q) 8 1 2 (by omega)
    rw [b0] at this
    rw [← this]; omega
  have hn : bv t (8 * (q + 1)) 16 = c.length := by
    rw [bytes16 t (q + 1) g2, e1]
    have e2' : t[q + 1 + 1]'g2 = (blkB last c)[2]'(by rw [blkB_len]; omega) := e2
    rw [e2']
    show (UInt8.ofNat c.length).toNat + 256 * (UInt8.ofNat (c.length / 256)).toNat = _
    simp only [UInt8.toNat_ofNat']
    omega
  have hm : bv t (8 * (q + 3)) 16 = 65535 - c.length := by
    rw [bytes16 t (q + 3) g4, e3]
    have e4' : t[q + 3 + 1]'g4 = (blkB last c)[4]'(by rw [blkB_len]; omega) := e4
    rw [e4']
    show (UInt8.ofNat (65535 - c.length)).toNat + 256 * (UInt8.ofNat ((65535 - c.length) / 256)).toNat = _
    simp only [UInt8.toNat_ofNat']
    omega
  have hcut : cut t (q + 5) c.length = c := by
    obtain ⟨u, hu⟩ := h
    have hu : t.data.toList = bl ++ blkB last c ++ u := hu
    rw [cut_list, hu]
    have : bl ++ blkB last c ++ u = (bl ++ [UInt8.ofNat (lb1 last), UInt8.ofNat c.length, UInt8.ofNat (c.length / 256), UInt8.ofNat (65535 - c.length), UInt8.ofNat ((65535 - c.length) / 256)]) ++ (c ++ u) := by simp [blkB]
    rw [this, List.drop_append_of_le_length (by simp; omega), List.drop_of_length_le (by simp; omega), List.nil_append, List.take_append_of_le_length (Nat.le_refl _), List.take_length]
  rw [hlen, hq, step_top]
  unfold stTop
  rw [num_ok (by omega), num_ok (by omega), b1, b2, if_pos rfl]
  unfold stStored
  rw [show upK (8 * q + 1 + 2) = 8 * (q + 1) by unfold upK; omega, num_ok (by omega), show 8 * (q + 1) + 16 = 8 * (q + 3) by omega, num_ok (by omega), hn, hm, if_pos rfl, show (8 * (q + 3) + 16) / 8 = q + 5 by omega, if_pos (by omega), if_neg (by omega), hcut]
  rw [show 8 * (q + 3) + 16 + 8 * c.length = 8 * (q + (5 + c.length)) by omega]
  have : (lb1 last == 1) = last := by cases last <;> rfl
  rw [this]
theorem pre_weak {a b : List UInt8} {t : ByteArray} (h : Pre ⟨(a ++ b).toArray⟩ t) : Pre ⟨a.toArray⟩ t := by
  obtain ⟨u, hu⟩ := h
  exact ⟨b ++ u, by rw [hu]; simp⟩
/-- The blocks so far, read. -/
def Read (L : Nat) (bl out : List UInt8) (done : Bool) : Prop := ∀ t : ByteArray, Pre ⟨bl.toArray⟩ t → Leads t L start (aft done (8 * bl.length) out)
theorem Read.nil (L : Nat) : Read L [] [] false := fun t _ => Leads.refl _
theorem Read.more {L : Nat} {bl out : List UInt8} (h : Read L bl out false) (c : List UInt8) (last : Bool) (hc : c.length ≤ 65535) (hL : out.length + c.length ≤ L) : Read L (bl ++ blkB last c) (out ++ c) last := fun t ht =>
  (h t (pre_weak ht)).then (blk_step bl c last hc ht L out hL)
theorem Read.inf {L : Nat} {bl out : List UInt8} (h : Read L bl out true) (hL : L ≤ 1073741824) : InfR ⟨bl.toArray⟩ L ⟨out.toArray⟩ bl.length 0 := by
  refine .inr ⟨L, rfl, hL, .inl ⟨8 * bl.length, out, h _ ⟨[], by simp⟩, rfl, by omega, rfl⟩⟩
end Go.Proofs.YtaihojjocmdgbaaDoor

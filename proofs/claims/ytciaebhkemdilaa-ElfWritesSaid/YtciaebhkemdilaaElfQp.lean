/- The document's Write step by step, as plain texts; its section, segment and head of a model (contracts). -/
import Derived.Test.YtciaebhkemdilaaElfQb
import Derived.Test.YtciaebhkemdilaaElfQc
import Derived.Test.YtciaebhkemdilaaElfQd
import Derived.Test.YtciaebhkemdilaaElfQe
import Derived.Test.YtciaebhkemdilaaElfZg
namespace Go.Proofs.Ytciaebhkemdilaa
open Go.RowKit
set_option linter.unusedVariables false
theorem datT_head (L : List ((SecR × Nat) × Nat)) (t : ByteArray) : ∃ r : ByteArray, ∀ a : ByteArray, a.size = 64 → datT L (a ++ t) = a ++ r := by
  induction L generalizing t with
  | nil => exact ⟨t, fun a _ => rfl⟩
  | cons y l ih =>
    by_cases h : y.1.1.dat.size = 0
    · obtain ⟨r, hr⟩ := ih t
      refine ⟨r, fun a ha => ?_⟩
      rw [datT, show putT (a ++ t) y.1.1.dat = a ++ t from by unfold putT; rw [if_pos h]]
      exact hr a ha
    · obtain ⟨r, hr⟩ := ih (t ++ zerosT (pad8 (64 + t.size)) ++ y.1.1.dat)
      refine ⟨r, fun a ha => ?_⟩
      rw [datT, show putT (a ++ t) y.1.1.dat = a ++ (t ++ zerosT (pad8 (64 + t.size)) ++ y.1.1.dat) from by
        unfold putT
        rw [if_neg h, ByteArray.size_append, ha]
        simp only [app_as]]
      exact hr a ha
theorem atG_take (L : List (SecR × Nat)) (p i : Nat) : (atG L p).take i = atG (L.take i) p := by
  induction L generalizing p i with
  | nil => simp [atG]
  | cons x r ih =>
    cases i with
    | zero => rfl
    | succ i =>
      rw [List.take_succ_cons, atG, atG]
      split
      · rw [List.take_succ_cons, ih]
      · rw [List.take_succ_cons, ih]
theorem atG_get {L : List (SecR × Nat)} {p i : Nat} {y : (SecR × Nat) × Nat} (h : (atG L p)[i]? = some y) : y.2 = if y.1.1.dat.size = 0 then 0 else al8 (endG (L.take i) p) := by
  induction L generalizing p i with
  | nil => simp [atG] at h
  | cons x r ih =>
    rw [atG] at h
    cases i with
    | zero =>
      by_cases hd : x.1.dat.size = 0
      · rw [if_pos hd] at h
        injection h with h
        rw [← h]
        exact (if_pos hd).symm
      · rw [if_neg hd] at h
        injection h with h
        rw [← h]
        exact (if_neg hd).symm
    | succ i =>
      rw [List.take_succ_cons, endG]
      by_cases hd : x.1.dat.size = 0
      · rw [if_pos hd] at h ⊢
        exact ih h
      · rw [if_neg hd] at h ⊢
        exact ih h
theorem allG_get {l : List SecR} {p i : Nat} {z : SecR × Nat} (h : (allG l p)[i]? = some z) : z.2 = p + (nmsT (l.take i)).size := by
  induction l generalizing p i with
  | nil => simp [allG] at h
  | cons x r ih =>
    rw [allG] at h
    cases i with
    | zero =>
      injection h with h
      rw [← h]
      rfl
    | succ i =>
      rw [List.take_succ_cons, nmsT, ByteArray.size_append, ByteArray.size_append, one_size, ih h]
      omega
section
variable (m : ElfR)
def docS : ByteArray := zerosT 64 ++ segsT m.segs
def docD (i : Nat) : ByteArray := datT ((wRow m).take i) (docS m)
def docH (i : Nat) : ByteArray := shsT ((wRow m).take i)
def docN (i : Nat) : ByteArray := nmsT ((allL m.secs (namesT m.secs)).take i)
theorem docS_size : (docS m).size = wP m := by unfold docS wP; rw [ByteArray.size_append, zerosT_size, segsT_size]
theorem docD_size (i : Nat) : (docD m i).size = endG ((allP m.secs).take i) (wP m) := by
  unfold docD wRow
  rw [atG_take, ← docS_size]
  exact datT_size _ _
variable {m} {i : Nat} {y : (SecR × Nat) × Nat}
theorem doc_next (h : (wRow m)[i]? = some y) : docD m (i + 1) = putT (docD m i) y.1.1.dat ∧ docH m (i + 1) = docH m i ++ shTx y ∧ docN m (i + 1) = docN m i ++ y.1.1.nam ++ ⟨#[0]⟩ ∧ y.1.2 = (docN m i).size ∧ y.2 = if y.1.1.dat.size = 0 then 0 else al8 (docD m i).size := by
  obtain ⟨hi, he⟩ := List.getElem?_eq_some_iff.1 h
  have hr := row_sec m i
  rw [h] at hr
  have hr2 : (allL m.secs (namesT m.secs))[i]? = some y.1.1 := hr.symm
  obtain ⟨hj, he2⟩ := List.getElem?_eq_some_iff.1 hr2
  refine ⟨?_, ?_, ?_, ?_, ?_⟩
  · unfold docD
    rw [datT_take hi, he]
  · unfold docH
    rw [shsT_take hi, he]
  · unfold docN
    rw [nmsT_take hj, he2]
  · have h1 : (allP m.secs)[i]? = some y.1 := by
      have := congrArg (fun l => l[i]?) (atG_map (allP m.secs) (wP m))
      simp only [List.getElem?_map] at this
      rw [← this]
      show Option.map _ (wRow m)[i]? = _
      rw [h]
      rfl
    unfold allP at h1
    have := allG_get h1
    rw [Nat.zero_add] at this
    exact this
  · have := atG_get (L := allP m.secs) (p := wP m) h
    rw [docD_size]
    exact this
theorem docD_le (i : Nat) : (docD m i).size ≤ endG (allP m.secs) (wP m) := by
  rw [docD_size]
  exact endG_part _ _ _
theorem docN_le (i : Nat) : (docN m i).size ≤ 1 + (nmsT m.secs).size + 10 := by
  have := nmsT_le (allL m.secs (namesT m.secs)) i
  rw [names_size] at this
  exact this
theorem docH_le (i : Nat) : (docH m i).size ≤ 64 * (m.secs.length + 2) := by
  unfold docH
  rw [shsT_size, List.length_take, wRow_len]
  omega
theorem doc_first : (wRow m)[0]? = some ((nulS, 0), 0) := by
  unfold wRow allP allL
  rw [allG, atG, if_pos (by rfl)]
  rfl
theorem doc_one : docD m 1 = docS m ∧ docH m 1 = zerosT 64 ∧ docN m 1 = ⟨#[0]⟩ := by
  obtain ⟨h1, h2, h3, -, -⟩ := doc_next (doc_first (m := m))
  refine ⟨?_, ?_, ?_⟩
  · rw [h1]
    unfold putT
    rw [if_pos (by rfl)]
    rfl
  · rw [h2]
    apply ba_ext
    show (docH m 0 ++ shTx ((nulS, 0), 0)).data.toList = _
    rw [app_list]
    show [] ++ (shTx ((nulS, 0), 0)).data.toList = _
    decide
  · rw [h3]
    rfl
theorem doc_sec (hi : i < m.secs.length) (h : (wRow m)[i + 1]? = some y) : y.1.1 = m.secs[i] := by
  have hr := row_sec m (i + 1)
  rw [h] at hr
  unfold allL at hr
  rw [List.getElem?_cons_succ, List.getElem?_append_left hi, List.getElem?_eq_getElem hi] at hr
  exact Option.some.inj hr
theorem doc_all : docD m (m.secs.length + 2) = datT (wRow m) (docS m) ∧ docH m (m.secs.length + 2) = shsT (wRow m) ∧ docN m (m.secs.length + 2) = namesT m.secs := by
  refine ⟨?_, ?_, ?_⟩
  · unfold docD
    rw [List.take_of_length_le (by rw [wRow_len]; exact Nat.le_refl _)]
  · unfold docH
    rw [List.take_of_length_le (by rw [wRow_len]; exact Nat.le_refl _)]
  · unfold docN
    rw [List.take_of_length_le (by unfold allL; simp), nms_all]
/-- The head is copied over what stood there. -/
theorem doc_end (m : ElfR) (hd : ByteArray) (hh : wHead m = hd) : overT (datT (wRow m) (docS m) ++ zerosT (pad8 (datT (wRow m) (docS m)).size) ++ shsT (wRow m)) hd = writeT m := by
  obtain ⟨r, hr⟩ := datT_head (wRow m) (segsT m.segs)
  have hz : (wHead m).size = 64 := headT_size _ _ _ _ _ _ _
  have e1 := hr (zerosT 64) (zerosT_size 64)
  have e2 := hr (wHead m) hz
  unfold writeT wDat docS
  rw [e1, e2, ByteArray.size_append, ByteArray.size_append, zerosT_size, hz, ← hh, app_as, app_as, overT_app _ _ _ (by rw [zerosT_size, hz])]
  simp only [app_as]
end
theorem dseg_m {m : ElfR} (hv : validB m = true) (x : SegR) (hx : x ∈ m.segs) (hok : x.Ok) (w : World) :
    Calls Try.prog 37 #[.agg #[.int .i64 x.typ, .int .i64 x.flg, .int .i64 x.off, .int .u64 x.vad, .int .u64 x.pad, .int .i64 x.fsz, .int .u64 x.msz, .int .u64 x.aln]] w fun e w' => e = .returned (.string (segTx x)) ∧ Bw w w' := by
  obtain ⟨⟨t0, t1⟩, ⟨f0, f1⟩, ⟨o0, o1⟩, z0, z1⟩ := valid_segs hv x hx
  unfold SegR.Ok at hok
  obtain ⟨-, -, -, h1, h2, -, h3, h4⟩ := hok
  have k := dsegment_any x.typ.toNat x.flg.toNat x.off.toNat x.vad x.pad x.fsz.toNat x.msz x.aln (by omega) (by omega) (by omega) h1 h2 (by omega) h3 h4 w
  rw [Int.toNat_of_nonneg t0, Int.toNat_of_nonneg f0, Int.toNat_of_nonneg o0, Int.toNat_of_nonneg z0] at k
  exact k
theorem dsec_m (y : (SecR × Nat) × Nat) (hy : RowOk y) (sz : Nat) (hsz : (if y.1.1.typ.toNat = 8 then y.1.1.siz.toNat else y.1.1.dat.size) = sz) (h9 : sz < 9223372036854775808) (h10 : y.2 < 9223372036854775808) (w : World) :
    Calls Try.prog 39 #[.agg #[.string y.1.1.nam, .int .i64 y.1.1.typ, .int .u64 y.1.1.flg, .int .u64 y.1.1.adr, .string y.1.1.dat, .int .i64 y.1.1.siz, .int .i64 y.1.1.lnk, .int .i64 y.1.1.inf, .int .u64 y.1.1.aln, .int .u64 y.1.1.eac], .int .i64 y.1.2, .int .i64 y.2, .int .i64 sz] w fun e w' => e = .returned (.string (shTx y)) ∧ Bw w w' := by
  unfold RowOk at hy
  obtain ⟨⟨a0, a1⟩, b, c, -, ⟨l0, l1⟩, ⟨i0, i1⟩, g, h, n9, -, -⟩ := hy
  have k := dsection_any y.1.1.nam y.1.1.dat y.1.1.siz y.1.1.typ.toNat y.1.1.flg y.1.1.adr sz y.1.1.lnk.toNat y.1.1.inf.toNat y.1.1.aln y.1.1.eac y.1.2 y.2 (by omega) b c h9 (by omega) (by omega) g h n9 h10 w
  rw [Int.toNat_of_nonneg a0, Int.toNat_of_nonneg l0, Int.toNat_of_nonneg i0] at k
  unfold shTx
  rw [hsz]
  exact k
theorem dhead_m {m : ElfR} (hv : validB m = true) (hen : m.ent < 18446744073709551616) {n k : Nat} (hn : m.segs.length = n) (hk : m.secs.length = k) (sA : Nat) (hsA : al8 (endG (allP m.secs) (wP m)) = sA) (h9 : sA < 9223372036854775808) (a b : Option Addr) (c d : Nat) (w : World) :
    Calls Try.prog 40 #[.agg #[.int .i64 m.typ, .int .i64 m.mac, .int .u64 m.ent, .int .i64 m.flg, .slice a n c, .slice b k d], .int .i64 (pOf n : Nat), .int .i64 sA] w fun e w' => e = .returned (.string (wHead m)) ∧ Bw w w' := by
  obtain ⟨⟨t0, t1⟩, ⟨a0, a1⟩, ⟨f0, f1⟩⟩ := valid_nats hv
  obtain ⟨g1, g2⟩ := valid_few hv
  have q := dhead_any m.typ.toNat m.mac.toNat m.ent m.flg.toNat sA n k a b c d (by omega) (by omega) hen (by omega) h9 (by omega) (by omega) w
  rw [Int.toNat_of_nonneg t0, Int.toNat_of_nonneg a0, Int.toNat_of_nonneg f0] at q
  unfold wHead
  rw [hsA, hn, hk]
  exact q
end Go.Proofs.Ytciaebhkemdilaa

/- What a model's file holds (plain). -/
import Derived.Test.YtciaebhkemdilaaElfYc
import Derived.Test.YtciaebhkemdilaaElfU
import Derived.Test.YtciaebhkemdilaaElfXg
namespace Go.Proofs.Ytciaebhkemdilaa
open Go.RowKit Go.Conc
set_option linter.unusedVariables false
def segTx (x : SegR) : ByteArray := segT x.typ.toNat x.flg.toNat x.off.toNat x.vad x.pad x.fsz.toNat x.msz x.aln
def segsT : List SegR → ByteArray
  | [] => ⟨#[]⟩
  | x :: r => segTx x ++ segsT r
def putT (s d : ByteArray) : ByteArray := if d.size = 0 then s else s ++ zerosT (pad8 s.size) ++ d
def datT : List ((SecR × Nat) × Nat) → ByteArray → ByteArray
  | [], s => s
  | y :: r, s => datT r (putT s y.1.1.dat)
def shTx (y : (SecR × Nat) × Nat) : ByteArray := shT y.1.2 y.1.1.typ.toNat y.1.1.flg y.1.1.adr y.2 (if y.1.1.typ.toNat = 8 then y.1.1.siz.toNat else y.1.1.dat.size) y.1.1.lnk.toNat y.1.1.inf.toNat y.1.1.aln y.1.1.eac
def shsT : List ((SecR × Nat) × Nat) → ByteArray
  | [] => ⟨#[]⟩
  | y :: r => shTx y ++ shsT r
/-- Where the first section's data may lie. -/
def wP (m : ElfR) : Nat := 64 + 56 * m.segs.length
def wRow (m : ElfR) : List ((SecR × Nat) × Nat) := atG (allP m.secs) (wP m)
def wHead (m : ElfR) : ByteArray := headT m.typ.toNat m.mac.toNat m.ent m.flg.toNat (al8 (endG (allP m.secs) (wP m))) m.segs.length m.secs.length
def wDat (m : ElfR) : ByteArray := datT (wRow m) (wHead m ++ segsT m.segs)
def writeT (m : ElfR) : ByteArray := wDat m ++ zerosT (pad8 (wDat m).size) ++ shsT (wRow m)
theorem segsT_app (l m : List SegR) : segsT (l ++ m) = segsT l ++ segsT m := by
  induction l with
  | nil => rw [List.nil_append, segsT, nil_app]
  | cons x r ih => rw [List.cons_append, segsT, segsT, ih, app_as]
theorem shsT_app (l m : List ((SecR × Nat) × Nat)) : shsT (l ++ m) = shsT l ++ shsT m := by
  induction l with
  | nil => rw [List.nil_append, shsT, nil_app]
  | cons x r ih => rw [List.cons_append, shsT, shsT, ih, app_as]
theorem datT_app (l m : List ((SecR × Nat) × Nat)) (s : ByteArray) : datT (l ++ m) s = datT m (datT l s) := by
  induction l generalizing s with
  | nil => rfl
  | cons x r ih => rw [List.cons_append, datT, datT, ih]
theorem segT_size (t f of va pa fz ms al : Nat) : (segT t f of va pa fz ms al).size = 56 := by
  unfold segT
  rw [ByteArray.size_append, numsT_size, numsT_size]
  rfl
theorem segsT_size (l : List SegR) : (segsT l).size = 56 * l.length := by
  induction l with
  | nil => rfl
  | cons x r ih => rw [segsT, ByteArray.size_append, ih, segTx, segT_size, List.length_cons]; omega
theorem shT_size (name typ fl ad at_ sz lk inf al ea : Nat) : (shT name typ fl ad at_ sz lk inf al ea).size = 64 := by
  unfold shT
  rw [ByteArray.size_append, ByteArray.size_append, ByteArray.size_append, numsT_size, numsT_size, numsT_size, numsT_size]
  rfl
theorem shsT_size (l : List ((SecR × Nat) × Nat)) : (shsT l).size = 64 * l.length := by
  induction l with
  | nil => rfl
  | cons x r ih => rw [shsT, ByteArray.size_append, ih, shTx, shT_size, List.length_cons]; omega
theorem headT_size (ty ma en fl sA n k : Nat) : (headT ty ma en fl sA n k).size = 64 := by
  unfold headT
  rw [ByteArray.size_append, ByteArray.size_append, ByteArray.size_append, ByteArray.size_append, ByteArray.size_append, numsT_size, numsT_size, numsT_size, numsT_size, numsT_size, mag_size]
  rfl
theorem putT_size {s d : ByteArray} (h : ¬ d.size = 0) : (putT s d).size = al8 s.size + d.size := by
  unfold putT al8
  rw [if_neg h, ByteArray.size_append, ByteArray.size_append, zerosT_size]
/-- The data lie where they were placed. -/
theorem datT_size (L : List (SecR × Nat)) (s : ByteArray) : (datT (atG L s.size) s).size = endG L s.size := by
  induction L generalizing s with
  | nil => rfl
  | cons x r ih =>
    rw [atG, endG]
    by_cases h : x.1.dat.size = 0
    · rw [if_pos h, if_pos h, datT]
      have e : putT s x.1.dat = s := by unfold putT; rw [if_pos h]
      simp only [e]
      exact ih s
    · rw [if_neg h, if_neg h, datT]
      have e := putT_size (s := s) h
      have k := ih (putT s x.1.dat)
      rw [e] at k
      exact k
theorem wDat_size (m : ElfR) : (wDat m).size = endG (allP m.secs) (wP m) := by
  have h : (wHead m ++ segsT m.segs).size = wP m := by
    rw [ByteArray.size_append, wHead, headT_size, segsT_size, wP]
  unfold wDat wRow
  rw [← h]
  exact datT_size _ _
theorem allP_len (l : List SecR) : (allP l).length = l.length + 2 := by
  unfold allP allL
  rw [allG_len, List.length_cons, List.length_append]
  rfl
theorem wRow_len (m : ElfR) : (wRow m).length = m.secs.length + 2 := by
  unfold wRow
  rw [atG_len, allP_len]
theorem writeT_size (m : ElfR) : (writeT m).size = al8 (endG (allP m.secs) (wP m)) + 64 * (m.secs.length + 2) := by
  unfold writeT
  rw [ByteArray.size_append, ByteArray.size_append, zerosT_size, wDat_size, shsT_size, wRow_len]
  rfl
theorem datT_take {l : List ((SecR × Nat) × Nat)} {k : Nat} (hk : k < l.length) (s : ByteArray) : datT (l.take (k + 1)) s = putT (datT (l.take k) s) l[k].1.1.dat := by
  rw [List.take_succ_eq_append_getElem hk, datT_app, datT, datT]
theorem shsT_take {l : List ((SecR × Nat) × Nat)} {k : Nat} (hk : k < l.length) : shsT (l.take (k + 1)) = shsT (l.take k) ++ shTx l[k] := by
  rw [List.take_succ_eq_append_getElem hk, shsT_app, shsT, shsT, app_nil]
theorem segsT_take {l : List SegR} {k : Nat} (hk : k < l.length) : segsT (l.take (k + 1)) = segsT (l.take k) ++ segTx l[k] := by
  rw [List.take_succ_eq_append_getElem hk, segsT_app, segsT, segsT, app_nil]
theorem putT_le (s d : ByteArray) : s.size ≤ (putT s d).size := by
  unfold putT
  split
  · exact Nat.le_refl _
  · rw [ByteArray.size_append, ByteArray.size_append]; omega
theorem datT_le (l : List ((SecR × Nat) × Nat)) (s : ByteArray) : s.size ≤ (datT l s).size := by
  induction l generalizing s with
  | nil => exact Nat.le_refl _
  | cons x r ih => rw [datT]; exact Nat.le_trans (putT_le s _) (ih _)
theorem datT_part (l : List ((SecR × Nat) × Nat)) (k : Nat) (s : ByteArray) : (datT (l.take k) s).size ≤ (datT l s).size := by
  have h := datT_app (l.take k) (l.drop k) s
  rw [List.take_append_drop] at h
  rw [h]
  exact datT_le _ _
end Go.Proofs.Ytciaebhkemdilaa

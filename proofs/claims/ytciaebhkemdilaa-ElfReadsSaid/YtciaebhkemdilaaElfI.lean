/- The model of a file: the state while it is read, the head that is cut (contract of the method). -/
import Derived.Test.YtciaebhkemdilaaElfD
import Derived.Test.YtciaebhkemdilaaElfE
import Derived.Test.YtciaebhkemdilaaElfH
import Derived.Test.YtciaebhkemdilaaKitS
namespace Go.Proofs.Ytciaebhkemdilaa
open Go.RowKit
set_option linter.unusedVariables false
set_option linter.unusedSimpArgs false
set_option maxRecDepth 100000 in
set_option maxHeartbeats 2000000 in
theorem head_cut (s : ByteArray) (hs : s.size ≤ lim) (h64 : s.size < 64) (w : World) :
    Calls Try.prog 42 #[.agg #[.int .i64 0, .string s]] w fun e w' => e = pan 2 ∧ Bw w w' := by
  have HP := hid (fun W => part_bad s hs 0 64 (by omega) (by omega) (by omega) W)
  have HB1 := hid (((Bw.refl w).alloc (.cells #[.int .i64 0, .string s] 49)).alloc (.cells zHead 86))
  unfold zHead at HB1
  go_enter Try.func42, Try.ntmps42
  go_wp2_with fail
  generalize (w.alloc (.cells #[.int .i64 0, .string s] 49)).alloc _ = W1 at *
  refine (HP.out W1).mono ?_
  rintro e w2 ⟨rfl, hb2⟩
  exact ⟨rfl, rfl, HB1.out.trans hb2⟩
def zElf : Array Value := #[.int .i64 0, .int .i64 0, .int .u64 0, .int .i64 0, .slice none 0 0, .slice none 0 0]
/-- While the model is made: the boxes of the file, the result, the head and the model. -/
structure ModW (w0 : World) (fb rb hb mb : Nat) (s : ByteArray) (hc mc : Array Value) (w : World) : Prop where
  bw : Bw w0 w
  fi : Has w fb 49 #[.int .i64 0, .string s]
  rs : Has w rb 27 zElf
  hd : Has w hb 86 hc
  md : Has w mb 27 mc
  lf : w0.heap.size ≤ fb
  lr : w0.heap.size ≤ rb
  lm : w0.heap.size ≤ mb
  nm : rb ≠ mb
section
variable {w0 w w' : World} {fb rb hb mb : Nat} {s : ByteArray} {hc mc : Array Value}
theorem ModW.bw' (h : ModW w0 fb rb hb mb s hc mc w) (k : Bw w w') : ModW w0 fb rb hb mb s hc mc w' :=
  ⟨h.bw.trans k, k.has h.fi, k.has h.rs, k.has h.hd, k.has h.md, h.lf, h.lr, h.lm, h.nm⟩
theorem ModW.keep {g : Nat} (h : ModW w0 fb rb hb mb s hc mc w) (k : Keeps (· = g) w w') (hg : w0.heap.size ≤ g) (n1 : fb ≠ g) (n2 : rb ≠ g) (n3 : hb ≠ g) (n4 : mb ≠ g) : ModW w0 fb rb hb mb s hc mc w' :=
  ⟨h.bw.keep1 hg k, k.has h.fi n1, k.has h.rs n2, k.has h.hd n3, k.has h.md n4, h.lf, h.lr, h.lm, h.nm⟩
theorem Has.apart {w : World} {a b : Nat} {t u : TypeId} {x y : Array Value} (h : Has w a t x) (k : Has w b u y) (hne : t ≠ u) : a ≠ b := fun e => by
  subst e
  unfold Has at h k
  rw [h] at k
  injection k with k
  injection k with _ k
  exact hne k
theorem ModW.rdr {g b q : Nat} {T : ByteArray} (h : ModW w0 fb rb hb mb s hc mc w) (hr : Rdr w g b T q) : fb ≠ g ∧ rb ≠ g ∧ hb ≠ g ∧ mb ≠ g :=
  ⟨h.fi.apart hr (by decide), h.rs.apart hr (by decide), h.hd.apart hr (by decide), h.md.apart hr (by decide)⟩
theorem ModW.row {g n z : Nat} {f : Nat → List Value} {t : TypeId} (h : ModW w0 fb rb hb mb s hc mc w) (hr : RowZ t z w g n f) (h1 : 49 ≠ t) (h2 : 27 ≠ t) (h3 : 86 ≠ t) : fb ≠ g ∧ rb ≠ g ∧ hb ≠ g ∧ mb ≠ g := by
  obtain ⟨cs, a, _⟩ := hr.has
  exact ⟨h.fi.apart a h1, h.rs.apart a h2, h.hd.apart a h3, h.md.apart a h2⟩
theorem ModW.put (h : ModW w0 fb rb hb mb s hc mc w) (i : Nat) (v : Value) : ModW w0 fb rb hb mb s hc (mc.setIfInBounds i v) (w.setCell ⟨mb, i, none⟩ v) :=
  ⟨Below.setCell (p := ⟨mb, i, none⟩) h.bw h.lm v, h.fi.far (p := ⟨mb, i, none⟩) (h.fi.apart h.md (by decide)) v, h.rs.far (p := ⟨mb, i, none⟩) h.nm v, h.hd.far (p := ⟨mb, i, none⟩) (h.hd.apart h.md (by decide)) v, h.md.put i v, h.lf, h.lr, h.lm, h.nm⟩
theorem ModW.grown (h : ModW w0 fb rb hb mb s hc mc w) {t : TypeId} {z n : Nat} {v : Value} {xs : List Value} (ho : w.ownsRow w0.heap.size t z v n xs) (hg : w.grownBy w' v.ownBlock) (h1 : t ≠ 49) (h2 : t ≠ 27) (h3 : t ≠ 86) : ModW w0 fb rb hb mb s hc mc w' :=
  ⟨Below.trans h.bw (own_grownJ ho hg h.bw.size), has_grown h.fi hg (own_ne_has ho h.fi h1), has_grown h.rs hg (own_ne_has ho h.rs h2), has_grown h.hd hg (own_ne_has ho h.hd h3), has_grown h.md hg (own_ne_has ho h.md h2), h.lf, h.lr, h.lm, h.nm⟩
end
theorem Has.pre {w : World} {g : Nat} {t : TypeId} {cs : Array Value} (h : Has w g t cs) (l : List Value) (hl : ∀ (j : Nat) (v : Value), l[j]? = some v → cs[j]? = some v) : w.rangeAt g 0 l := fun j v hv => by
  rw [Nat.zero_add, h.cell j]
  exact hl j v hv
theorem Has.head {w : World} {g : Nat} {t : TypeId} {cs : Array Value} (h : Has w g t cs) (l : List Value) (hl : cs.toList.take l.length = l) : w.rangeAt g 0 l := fun j v hv => by
  rw [Nat.zero_add, h.cell j]
  have hj := (List.getElem?_eq_some_iff.1 hv).1
  rw [← hl, List.getElem?_take, if_pos hj] at hv
  simpa using hv
def segE1 (s : ByteArray) (i : Nat) : Int := segE s (segAt s i)
theorem seg_ok (s : ByteArray) (h : Nat) (h1 : n8 s (h + 8) ≤ great) (h2 : n8 s (h + 32) ≤ great) : (segC s h).Ok := by
  have a := n4_lt s h
  have b := n4_lt s (h + 4)
  unfold great at h1 h2
  refine ⟨?_, ?_, ?_, n8_lt _ _, n8_lt _ _, ?_, n8_lt _ _, n8_lt _ _⟩
  · show -9223372036854775808 ≤ (n4 s h : Int) ∧ (n4 s h : Int) ≤ 9223372036854775807; omega
  · show -9223372036854775808 ≤ (n4 s (h + 4) : Int) ∧ (n4 s (h + 4) : Int) ≤ 9223372036854775807; omega
  · show -9223372036854775808 ≤ (n8 s (h + 8) : Int) ∧ (n8 s (h + 8) : Int) ≤ 9223372036854775807; omega
  · show -9223372036854775808 ≤ (n8 s (h + 32) : Int) ∧ (n8 s (h + 32) : Int) ≤ 9223372036854775807; omega
theorem secD_size (s : ByteArray) (h : Nat) : (secD s h).size ≤ s.size := by
  unfold secD
  split
  · exact Nat.zero_le _
  · simp; omega
theorem sec_ok (s : ByteArray) (hs : s.size ≤ 100000000) (h : Nat) (nm : ByteArray) (hn : nm.size ≤ s.size) (h2 : n8 s (h + 32) ≤ great) : (secC s h nm (secD s h)).Ok := by
  have a := n4_lt s (h + 4)
  have b := n4_lt s (h + 40)
  have c := n4_lt s (h + 44)
  have d := secD_size s h
  have e : secZ s h ≤ great := by unfold secZ; split; exact h2; exact Nat.zero_le _
  unfold great at e
  refine ⟨?_, ?_, n8_lt _ _, n8_lt _ _, ?_, ?_, ?_, ?_, n8_lt _ _, n8_lt _ _⟩
  · show nm.size ≤ _; omega
  · show -9223372036854775808 ≤ (n4 s (h + 4) : Int) ∧ (n4 s (h + 4) : Int) ≤ 9223372036854775807; omega
  · show (secD s h).size ≤ _; omega
  · show -9223372036854775808 ≤ (secZ s h : Int) ∧ (secZ s h : Int) ≤ 9223372036854775807; omega
  · show -9223372036854775808 ≤ (n4 s (h + 40) : Int) ∧ (n4 s (h + 40) : Int) ≤ 9223372036854775807; omega
  · show -9223372036854775808 ≤ (n4 s (h + 44) : Int) ∧ (n4 s (h + 44) : Int) ≤ 9223372036854775807; omega
theorem segE_0 {s : ByteArray} {h : Nat} (e : segE s h = 0) : n8 s (h + 8) ≤ great ∧ n8 s (h + 32) ≤ great ∧ n8 s (h + 8) + n8 s (h + 32) ≤ s.size := by
  unfold segE at e
  by_cases h1 : great < n8 s (h + 8) ∨ great < n8 s (h + 32)
  · rw [if_pos h1] at e; cases e
  rw [if_neg h1] at e
  by_cases h2 : s.size < n8 s (h + 8) + n8 s (h + 32)
  · rw [if_pos h2] at e; cases e
  omega
theorem secE_0 {s : ByteArray} {h : Nat} (e : secE s h = 0) : n8 s (h + 24) ≤ great ∧ n8 s (h + 32) ≤ great := by
  unfold secE at e
  by_cases h1 : great < n8 s (h + 24) ∨ great < n8 s (h + 32)
  · rw [if_pos h1] at e; cases e
  omega
theorem segL_ok {s : ByteArray} (h : segsE s = 0) : ∀ o ∈ segL s, o.Ok := by
  intro o ho
  unfold segL at ho
  rw [List.mem_map] at ho
  obtain ⟨i, hi, rfl⟩ := ho
  obtain ⟨a, b, _⟩ := segE_0 (first_0 h i (Nat.zero_le _) (by have := List.mem_range.1 hi; omega))
  exact seg_ok s _ a b
theorem secL_ok {s : ByteArray} (hs : s.size ≤ 100000000) (h : secsE s = 0) : ∀ o ∈ secL s, o.Ok := by
  intro o ho
  unfold secL at ho
  rw [List.mem_map] at ho
  obtain ⟨i, hi, rfl⟩ := ho
  obtain ⟨a, b⟩ := secE_0 (first_0 h (i + 1) (by omega) (by have := List.mem_range.1 hi; omega))
  refine sec_ok s hs _ _ ?_ b
  have := secD_size s (secAt s (nSec s - 1))
  unfold namT lastD
  simp; omega
/-- What model does. -/
def ModelQ (s : ByteArray) (w : World) (e : Ending) (w' : World) : Prop :=
  Bw w w' ∧ ((readE s = 0 ∧ ∃ a c b d, e = .returned (.agg #[.int .i64 (n2 s 16), .int .i64 (n2 s 18), .int .u64 (n8 s 24), .int .i64 (n4 s 48), .slice a (nSeg s) c, .slice b (nSec s - 2) d]) ∧ w'.ownsRow w.heap.size 61 8 (.slice a (nSeg s) c) (nSeg s) (segCells (segL s)) ∧ w'.ownsRow w.heap.size 43 10 (.slice b (nSec s - 2) d) (nSec s - 2) (secCells (secL s))) ∨ (readE s ≠ 0 ∧ e = pan (readE s)))
theorem hd_is0 {s : ByteArray} (h : ¬ s.size < 64) : HeadOk s ↔ hdE s = 0 := by
  constructor
  · exact hd_ok h
  · intro e
    refine Classical.byContradiction fun k => ?_
    rw [hd_bad h k] at e
    cases e
theorem zeroElfInfo : (Try.prog.info? 27).map (·.size) = some 6 := by kernel_rfl
end Go.Proofs.Ytciaebhkemdilaa

import Derived.Test.YtciaebhkemdilabRows
import Derived.Test.YtciaebhkemdilabKitC
import Derived.Lib.Builder
import Derived.Lib.AppendStr
import Derived.Lib.UnsafeStr
import Derived.Conc.SmallLaws
import Derived.Shelf.Strings.Builder2
import Derived.Lib.MakeNoZero
import Derived.Laws.CopyRow
import Derived.Laws.CopyOwn
import Derived.Deep.DeepCutAuto
import Derived.Deep.RegionHeld3
import Derived.StillTailTactics
import Derived.IntWalk
/- A strings.Builder of the call's own: what its methods return, and what they leave. -/
namespace Go.Proofs.Ytciaebhkemdilab
open Go.RowKit Go.Conc
set_option linter.unusedVariables false
theorem bldInfo : (Try.prog.info? 43).map (·.size) = some 2 := by kernel_rfl
theorem byteInfo : (Try.prog.info? 5).map (fun i => (i.zero, i.size, i.bytes)) = some (some (.int .u8 0), 1, 1) := by kernel_rfl
theorem bldLies : liesAt Try.prog Try.prog.depth 43 (2 / Try.prog.cellsOf 43) 0 43 1 = true := by kernel_rfl
/-- A builder at block b, 'used' if u, that holds these bytes; its buffer lies at or above B. -/
def Bld (B b : Nat) (u : Bool) (s : ByteArray) (w : World) : Prop :=
  B ≤ b ∧ ∃ v, Has w b 43 #[.pointer (if u then some ⟨b, 0, none⟩ else none), v] ∧ w.ownsRow B 5 1 v s.size (Lib.strCells s)
theorem Has.shape {w : World} {g : Nat} {t : TypeId} {cs : Array Value} (h : Has w g t cs) : w.shape? g = some (t, cs.size) := by
  unfold Has at h
  simp [World.shape?, h]
theorem ownsRow_other {w w' : World} {B : Nat} {e : TypeId} {size n : Nat} {v : Value} {xs : List Value} (h : w.ownsRow B e size v n xs) (hk : ∀ b, v.ownBlock = some b → w'.heap[b]? = w.heap[b]?) : w'.ownsRow B e size v n xs := by
  refine ⟨h.1, ?_⟩
  rcases h.2 with ⟨rfl, h0⟩ | ⟨g', cap, cur, rfl, h1, hh, h2⟩
  · exact .inl ⟨rfl, h0⟩
  · exact .inr ⟨g', cap, cur, rfl, h1, (hk g' (by simp [Value.ownBlock])).trans hh, h2⟩
set_option maxHeartbeats 400000 in
theorem check_used (b : Nat) (w : World) (h0 : w.cell? ⟨b, 0, none⟩ = some (.pointer (some ⟨b, 0, none⟩))) :
    Calls Try.prog 29 #[.pointer (some ⟨b, 0, none⟩)] w fun e w' => e = .returned (.tuple #[]) ∧ w = w' := by
  obtain ⟨j, hj, hjs⟩ := Option.map_eq_some_iff.1 bldInfo
  have hne := Lib.run_neq_ptr_same (P := Try.prog) w ⟨b, 0, none⟩ Try.underlying41 hj
  go_enter Try.func29, Try.ntmps29
  go_wp2
  go_returns
  exact ⟨rfl, rfl⟩
set_option maxHeartbeats 400000 in
theorem check_fresh (b : Nat) (v : Value) (w : World) (hH : Has w b 43 #[.pointer none, v]) :
    Calls Try.prog 29 #[.pointer (some ⟨b, 0, none⟩)] w fun e w' => e = .returned (.tuple #[]) ∧ w.setCell ⟨b, 0, none⟩ (.pointer (some ⟨b, 0, none⟩)) = w' := by
  obtain ⟨j, hj, hjs⟩ := Option.map_eq_some_iff.1 bldInfo
  have h0 : w.cell? ⟨b, 0, none⟩ = some (.pointer none) := hH.cell 0
  have hfz := hH.frozen 0
  have hsh := hH.shape
  have k1 := Lib.run_to_unsafe (P := Try.prog) w ⟨b, 0, none⟩ Try.underlying41 Try.underlying91 hj (by rw [hjs]; decide) hsh (by simp)
  have k2 := Lib.run_from_unsafe (P := Try.prog) w ⟨b, 0, none⟩ Try.underlying91 Try.underlying41 hj hsh bldLies
  clear hH hsh
  have k3 : (callFunc 45 #[.pointer (some ⟨b, 0, none⟩)]).run Try.prog w = .ok (.value (.pointer (some ⟨b, 0, none⟩))) w := by
    rw [run_callFunc_extern Try.func45 (by kernel_rfl) (by kernel_rfl) (by kernel_rfl) (e := Extern.AbiNoEscape.same) (by kernel_rfl), Lib.run_noEscape]
    rfl
  go_enter Try.func29, Try.ntmps29
  go_wp2
  go_returns
  exact ⟨rfl, rfl⟩
/-- What a builder's method may turn: the builder's block, rows of bytes, and new blocks. -/
def BKeeps (B b : Nat) (w w' : World) : Prop := Below B w w' ∧ w.heap.size ≤ w'.heap.size ∧ ∀ i, i < w.heap.size → i ≠ b → (∀ cs fr, w.heap[i]? ≠ some (.cells cs 5 fr)) → w'.heap[i]? = w.heap[i]?
theorem BKeeps.refl (B b : Nat) (w : World) : BKeeps B b w w := ⟨Below.refl _ _, Nat.le_refl _, fun _ _ _ _ => rfl⟩
theorem BKeeps.trans {B b : Nat} {x y z : World} (h : BKeeps B b x y) (k : BKeeps B b y z) : BKeeps B b x z :=
  ⟨h.1.trans k.1, Nat.le_trans h.2.1 k.2.1, fun i hi hn hc => (k.2.2 i (Nat.lt_of_lt_of_le hi h.2.1) hn (by rw [h.2.2 i hi hn hc]; exact hc)).trans (h.2.2 i hi hn hc)⟩
theorem check_any (B b : Nat) (u : Bool) (s : ByteArray) (w : World) (h : Bld B b u s w) :
    Calls Try.prog 29 #[.pointer (some ⟨b, 0, none⟩)] w fun e w' => e = .returned (.tuple #[]) ∧ Bld B b true s w' ∧ BKeeps B b w w' := by
  obtain ⟨hB, v, hH, hR⟩ := h
  cases u with
  | true =>
    refine (check_used b w (hH.cell 0)).mono fun e w' ⟨he, hw⟩ => ?_
    subst hw
    exact ⟨he, ⟨hB, v, hH, hR⟩, BKeeps.refl _ _ _⟩
  | false =>
    refine (check_fresh b v w hH).mono fun e w' ⟨he, hw⟩ => ?_
    subst hw
    have hne : v.ownBlock ≠ some b := fun hb => by
      rcases hR.2 with ⟨rfl, _⟩ | ⟨g', cap, cur, rfl, _, hh, _⟩
      · simp [Value.ownBlock] at hb
      · have : g' = b := by simpa [Value.ownBlock] using hb
        subst this
        unfold Has at hH
        rw [hH] at hh
        injection hh with hh
        injection hh with _ ht
        exact absurd ht (by decide)
    have hH2 := hH.put 0 (.pointer (some ⟨b, 0, none⟩))
    refine ⟨he, ⟨hB, v, by simpa using hH2, ?_⟩, (Below.refl _ _).setCell (by exact hB) _, by simp [World.setCell], fun i hi hn _ => Below.heap_setCell w ⟨b, 0, none⟩ _ i hn⟩
    exact ownsRow_other hR (fun k hk => Below.heap_setCell w ⟨b, 0, none⟩ _ k (fun e => hne (by rw [hk, e])))
theorem strCells_add (s t : ByteArray) : Lib.strCells (s ++ t) = Lib.strCells s ++ Lib.strCells t := by
  simp [Lib.strCells]
theorem bld_ne {B b : Nat} {n : Nat} {v : Value} {xs : List Value} {w : World} {cs : Array Value} (hH : Has w b 43 cs) (hR : w.ownsRow B 5 1 v n xs) : v.ownBlock ≠ some b := fun hb => by
  rcases hR.2 with ⟨rfl, _⟩ | ⟨g', cap, cur, rfl, _, hh, _⟩
  · simp [Value.ownBlock] at hb
  · have : g' = b := by simpa [Value.ownBlock] using hb
    subst this
    unfold Has at hH
    rw [hH] at hh
    injection hh with hh
    injection hh with _ ht
    exact absurd ht (by decide)
theorem own_u8 {B : Nat} {n : Nat} {v : Value} {xs : List Value} {w : World} (hR : w.ownsRow B 5 1 v n xs) {g : Nat} (hg : v.ownBlock = some g) : B ≤ g ∧ ∃ cs fr, w.heap[g]? = some (.cells cs 5 fr) := by
  rcases hR.2 with ⟨rfl, _⟩ | ⟨g', cap, cur, rfl, h1, hh, _⟩
  · simp [Value.ownBlock] at hg
  · have : g' = g := by simpa [Value.ownBlock] using hg
    subst this
    exact ⟨h1, _, _, hh⟩
set_option maxRecDepth 100000 in
set_option maxHeartbeats 1000000 in
theorem write_any (B b : Nat) (u : Bool) (s t : ByteArray) (hst : s.size + t.size ≤ 140737488355328) (w : World) (hBw : B ≤ w.heap.size) (h : Bld B b u s w) :
    Calls Try.prog 15 #[.pointer (some ⟨b, 0, none⟩), .string t] w fun e w' => e = .returned (.tuple #[.int .i64 t.size, .nilIface]) ∧ Bld B b true (s ++ t) w' ∧ BKeeps B b w w' := by
  obtain ⟨i0, hi, hz0, hz1, hz2⟩ := info_parts byteInfo
  have HB := hid h
  clear h
  go_enter Try.func15, Try.ntmps15
  go_wp2_with fail
  refine (check_any B b u s _ HB.out).mono ?_
  rintro e w1 ⟨rfl, ⟨hB, v, hH, hR⟩, hK1⟩
  obtain ⟨ao, cap, rfl⟩ := own_slice hR
  have c1 : w1.cell? ⟨b, 1, none⟩ = some (.slice ao s.size cap) := hH.cell 1
  have HH := hid hH
  have HR := hid hR
  have hB1 : B ≤ w1.heap.size := Nat.le_trans hBw hK1.2.1
  clear hH hR
  go_wp2_with (at_builtin; refine Lib.wpList_append_own_string _ rfl _ _ 38 9 rfl B 5 i0 Try.underlying38 Try.underlying9 hi hz0 hz1 hz2 _ _ _ rfl HR.out t rfl (by unfold maxLen; omega) (by omega) hB1 ?_; intro v' w2 hown' hgrow' _; obtain ⟨ao2, cap2, rfl⟩ := own_slice hown'; have hH2 : Has w2 b 43 #[.pointer (some ⟨b, 0, none⟩), .slice ao s.size cap] := (hgrow'.block b HH.out.lt (fun e => bld_ne HH.out HR.out e.symm)).trans HH.out; have y1 : w2.cell? ⟨b, 1, none⟩ = some (.slice ao s.size cap) := hH2.cell 1; have z1 := hH2.frozen 1)
  go_returns
  have hH3 := hH2.put 1 (.slice ao2 (s.size + t.size) cap2)
  refine ⟨rfl, ⟨hB, .slice ao2 (s.size + t.size) cap2, by simpa using hH3, ?_⟩, hK1.trans ⟨?_, ?_, ?_⟩⟩
  · rw [strCells_add, ByteArray.size_append]
    exact ownsRow_other hown' (fun k hk => Below.heap_setCell w2 ⟨b, 1, none⟩ _ k (fun e => bld_ne hH2 hown' (by rw [hk, e])))
  · refine Below.setCell ?_ (by exact hB) _
    exact ⟨hgrow'.os, hgrow'.tape, hgrow'.output, hgrow'.size, fun k hk => hgrow'.block k (by omega) (fun e => by have := (own_u8 HR.out e.symm).1; omega)⟩
  · simpa [World.setCell] using hgrow'.size
  · intro i hi hn hc
    refine (Below.heap_setCell w2 ⟨b, 1, none⟩ _ i hn).trans (hgrow'.block i hi (fun e => ?_))
    obtain ⟨_, cs, fr, hx⟩ := own_u8 HR.out e.symm
    exact hc cs fr hx
theorem heap_freeze (w : World) (p : Addr) (n i : Nat) (h : i ≠ p.block) : (w.freeze p n).heap[i]? = w.heap[i]? := by
  unfold World.freeze
  split
  · rfl
  · simp [Array.getElem?_modify, Ne.symm h]
theorem size_freeze (w : World) (p : Addr) (n : Nat) : (w.freeze p n).heap.size = w.heap.size := by
  unfold World.freeze
  split
  · rfl
  · simp
theorem BKeeps.drew {B b : Nat} {x y : World} (h : BKeeps B b x y) : BKeeps B b x y.drew := ⟨h.1.drew, h.2.1, h.2.2⟩
theorem us_none (W : World) (q : Option Addr) : (Builtin.unsafeString_ #[75, 3] 9 #[.pointer q, .int .i64 0]).run Try.prog W = .ok (.string .empty) W := Lib.run_unsafeString_none W _ _ _ q
set_option maxRecDepth 100000 in
set_option maxHeartbeats 1000000 in
theorem string_nil (B b : Nat) (pv : Value) (w : World) (hH : Has w b 43 #[pv, .slice none 0 0]) :
    Calls Try.prog 22 #[.pointer (some ⟨b, 0, none⟩)] w fun e w' => e = .returned (.string ⟨#[]⟩) ∧ BKeeps B b w w' := by
  have c1 : w.drew.cell? ⟨b, 1, none⟩ = some (.slice none 0 0) := (Has.drew hH).cell 1
  have c0 : w.cell? ⟨b, 1, none⟩ = some (.slice none 0 0) := hH.cell 1
  have hSD : (Builtin.unsafeSliceData_ #[38] 75 #[.slice none 0 0]).run Try.prog w.drew = .ok (.pointer none) w.drew := rfl
  have hUS := us_none
  clear hH
  go_enter Try.func22, Try.ntmps22
  go_wp2
  go_region
  all_goals go_wp2
  all_goals go_returns
  all_goals exact ⟨rfl, (BKeeps.refl B b w).drew⟩
set_option maxRecDepth 100000 in
set_option maxHeartbeats 1000000 in
theorem string_room (B b g cap : Nat) (hc0 : cap ≠ 0) (pv : Value) (w : World) (hH : Has w b 43 #[pv, .slice (some ⟨g, 0, none⟩) 0 cap]) :
    Calls Try.prog 22 #[.pointer (some ⟨b, 0, none⟩)] w fun e w' => e = .returned (.string ⟨#[]⟩) ∧ BKeeps B b w w' := by
  have c1 : w.drew.cell? ⟨b, 1, none⟩ = some (.slice (some ⟨g, 0, none⟩) 0 cap) := (Has.drew hH).cell 1
  have c0 : w.cell? ⟨b, 1, none⟩ = some (.slice (some ⟨g, 0, none⟩) 0 cap) := hH.cell 1
  have hSD : (Builtin.unsafeSliceData_ #[38] 75 #[.slice (some ⟨g, 0, none⟩) 0 cap]).run Try.prog w.drew = .ok (.pointer (some ⟨g, 0, none⟩)) w.drew := Lib.run_unsafeSliceData_row _ _ _ _ _ _ hc0
  have hUS := us_none
  clear hH hc0
  go_enter Try.func22, Try.ntmps22
  go_wp2
  go_region
  all_goals go_wp2
  all_goals go_returns
  all_goals exact ⟨rfl, (BKeeps.refl B b w).drew⟩
set_option maxRecDepth 100000 in
set_option maxHeartbeats 1000000 in
theorem string_noroom (B b g : Nat) (pv : Value) (cur : Array Value) (w : World) (hBw : B ≤ w.heap.size) (hH : Has w b 43 #[pv, .slice (some ⟨g, 0, none⟩) 0 0]) (hg : w.heap[g]? = some (.cells cur 5 (0, 0))) :
    Calls Try.prog 22 #[.pointer (some ⟨b, 0, none⟩)] w fun e w' => e = .returned (.string ⟨#[]⟩) ∧ BKeeps B b w w' := by
  have c1 : w.drew.cell? ⟨b, 1, none⟩ = some (.slice (some ⟨g, 0, none⟩) 0 0) := (Has.drew hH).cell 1
  have c0 : w.cell? ⟨b, 1, none⟩ = some (.slice (some ⟨g, 0, none⟩) 0 0) := hH.cell 1
  have hSD : (Builtin.unsafeSliceData_ #[38] 75 #[.slice (some ⟨g, 0, none⟩) 0 0]).run Try.prog w.drew = .ok (.pointer (some ⟨w.drew.heap.size, 0, none⟩)) (w.drew.alloc (.view ⟨g, 0, none⟩ 5)) := Lib.run_unsafeSliceData_zero w.drew _ _ 5 Try.underlying75 ⟨g, 0, none⟩ 0 (5, cur.size) (by have hg2 : w.drew.heap[g]? = some (.cells cur 5 (0, 0)) := hg; simp [World.shape?, hg2])
  have c2 : (w.drew.alloc (.view ⟨g, 0, none⟩ 5)).cell? ⟨b, 1, none⟩ = some (.slice (some ⟨g, 0, none⟩) 0 0) := ((Has.drew hH).alloc _).cell 1
  have c3 : (w.alloc (.view ⟨g, 0, none⟩ 5)).drew.cell? ⟨b, 1, none⟩ = some (.slice (some ⟨g, 0, none⟩) 0 0) := ((Has.alloc hH _).drew).cell 1
  have hUS := us_none
  clear hH hg
  go_enter Try.func22, Try.ntmps22
  go_wp2
  go_region
  all_goals go_wp2
  all_goals go_returns
  all_goals exact ⟨rfl, ⟨(Below.drew (Below.refl B w)).alloc hBw _, by simp, fun i hi _ _ => Below.heap_alloc w.drew _ i hi⟩⟩
set_option maxRecDepth 100000 in
set_option maxHeartbeats 1000000 in
theorem string_some (B b g cap : Nat) (pv : Value) (cur : Array Value) (s : ByteArray) (h0 : s.size ≠ 0) (w : World) (hH : Has w b 43 #[pv, .slice (some ⟨g, 0, none⟩) s.size cap]) (hBg : B ≤ g) (hg : w.heap[g]? = some (.cells cur 5 (0, 0))) (hsc : s.size ≤ cap) (hm : cap ≤ 9223372036854775807) (hcs : cur.size = cap) (hown : w.ownsRow B 5 1 (.slice (some ⟨g, 0, none⟩) s.size cap) s.size (Lib.strCells s)) :
    Calls Try.prog 22 #[.pointer (some ⟨b, 0, none⟩)] w fun e w' => e = .returned (.string s) ∧ BKeeps B b w w' := by
  have hl : s.data.toList.length = s.size := by simp
  have hl0 : s.data.toList ≠ [] := fun e => h0 (by rw [← hl, e]; rfl)
  have c1 : w.drew.cell? ⟨b, 1, none⟩ = some (.slice (some ⟨g, 0, none⟩) s.size cap) := (Has.drew hH).cell 1
  have c0 : w.cell? ⟨b, 1, none⟩ = some (.slice (some ⟨g, 0, none⟩) s.size cap) := hH.cell 1
  have hSD : (Builtin.unsafeSliceData_ #[38] 75 #[.slice (some ⟨g, 0, none⟩) s.size cap]).run Try.prog w.drew = .ok (.pointer (some ⟨g, 0, none⟩)) w.drew := Lib.run_unsafeSliceData_row _ _ _ _ _ _ (by omega)
  have hUS : (Builtin.unsafeString_ #[75, 3] 9 #[.pointer (some ⟨g, 0, none⟩), .int .i64 s.size]).run Try.prog w.drew = .ok (.string s) (w.drew.freeze ⟨g, 0, none⟩ s.size) := by
    have h := Lib.run_unsafeString_row (P := Try.prog) w.drew 75 3 9 5 Try.underlying75 (by kernel_rfl) g cur.size (by have hg2 : w.drew.heap[g]? = some (.cells cur 5 (0, 0)) := hg; simp [World.shape?, hg2]) s.data.toList hl0 (by omega) (by omega) (fun j x hx => by
      have := hown.cells (g := g) rfl j (.int .u8 x.toNat) (by simp [Lib.strCells, hx])
      exact this)
    rw [hl] at h
    exact h
  have HG := hid hg
  clear hH hown hg hl hl0 hcs h0
  go_enter Try.func22, Try.ntmps22
  go_wp2
  go_region
  all_goals go_wp2
  all_goals go_returns
  all_goals exact ⟨rfl, ⟨Lib.below_freeze (Below.drew (Below.refl B w)) (p := ⟨g, 0, none⟩) hBg _, by rw [size_freeze]; exact Nat.le_refl _, fun i hi hn hc => heap_freeze w.drew ⟨g, 0, none⟩ _ i (fun e => hc cur (0, 0) (by rw [e]; exact HG.out))⟩⟩
theorem string_any (B b : Nat) (u : Bool) (s : ByteArray) (w : World) (hBw : B ≤ w.heap.size) (h : Bld B b u s w) :
    Calls Try.prog 22 #[.pointer (some ⟨b, 0, none⟩)] w fun e w' => e = .returned (.string s) ∧ BKeeps B b w w' := by
  obtain ⟨hB, v, hH, hR⟩ := h
  have hempty : s.size = 0 → s = ⟨#[]⟩ := fun hz => by
    have h2 : s.data = #[] := Array.eq_empty_of_size_eq_zero hz
    show (⟨s.data⟩ : ByteArray) = ⟨#[]⟩
    rw [h2]
  rcases hR.2 with ⟨rfl, h0⟩ | ⟨g, cap, cur, rfl, h1, hh, h2, h3, h4, h5⟩
  · rw [hempty h0]
    exact string_nil B b _ w hH
  · by_cases h0 : s.size = 0
    · rw [h0] at hH
      rw [hempty h0]
      by_cases hc : cap = 0
      · subst hc; exact string_noroom B b g _ cur w hBw hH hh
      · exact string_room B b g cap hc _ w hH
    · exact string_some B b g cap _ cur s h0 w hH h1 hh h2 (by unfold maxLen at h3; omega) (by omega) hR
theorem Bld.fresh (w : World) (B : Nat) (hB : B ≤ w.heap.size) : Bld B w.heap.size false ⟨#[]⟩ (w.alloc (.cells #[.pointer none, .slice none 0 0] 43)) :=
  ⟨hB, .slice none 0 0, Has.new w _ _, World.ownsRow_nil _ _ _ _⟩
theorem BKeeps.bw {B b : Nat} {w w' : World} (h : BKeeps B b w w') (hB : w.heap.size ≤ B) : Bw w w' := Below.mono h.1 hB
end Go.Proofs.Ytciaebhkemdilab
/- A strings.Builder that has been written to: Len, Grow. -/
namespace Go.Proofs.Ytciaebhkemdilab
open Go.RowKit Go.Conc
set_option linter.unusedVariables false
set_option maxHeartbeats 400000 in
theorem bldlen_any (B b : Nat) (u : Bool) (s : ByteArray) (w : World) (h : Bld B b u s w) :
    Calls Try.prog 20 #[.pointer (some ⟨b, 0, none⟩)] w fun e w' => e = .returned (.int .i64 s.size) ∧ w = w' := by
  obtain ⟨hB, v, hH, hR⟩ := h
  obtain ⟨ao, cap, rfl⟩ := own_slice hR
  have c1 : w.cell? ⟨b, 1, none⟩ = some (.slice ao s.size cap) := hH.cell 1
  clear hH hR
  go_enter Try.func20, Try.ntmps20
  go_wp2
  go_returns
  exact ⟨rfl, rfl⟩
/-- What grow leaves: a new row, the text in it, the builder's slice turned. -/
theorem bld_grown {B b g cap : Nat} {s : ByteArray} {w : World} {cs : Array Value} (hB : B ≤ b) (hH : Has w b 43 #[.pointer (some ⟨b, 0, none⟩), .slice (some ⟨g, 0, none⟩) s.size cap]) (hBw : B ≤ w.heap.size) (hm : cs.size ≤ maxLen) (hle : s.size ≤ cs.size) :
    Bld B b true s (((w.alloc (.cells cs 5)).setRow w.heap.size (Lib.strCells s ++ cs.toList.drop s.size).toArray).setCell ⟨b, 1, none⟩ (.slice (some ⟨w.heap.size, 0, none⟩) s.size cs.size)) ∧
    BKeeps B b w (((w.alloc (.cells cs 5)).setRow w.heap.size (Lib.strCells s ++ cs.toList.drop s.size).toArray).setCell ⟨b, 1, none⟩ (.slice (some ⟨w.heap.size, 0, none⟩) s.size cs.size)) := by
  have hlt := hH.lt
  have hls : (Lib.strCells s).length = s.size := by simp [Lib.strCells]
  have h1 : Has (w.alloc (.cells cs 5)) b 43 #[.pointer (some ⟨b, 0, none⟩), .slice (some ⟨g, 0, none⟩) s.size cap] := hH.alloc _
  have h2 : Has ((w.alloc (.cells cs 5)).setRow w.heap.size (Lib.strCells s ++ cs.toList.drop s.size).toArray) b 43 #[.pointer (some ⟨b, 0, none⟩), .slice (some ⟨g, 0, none⟩) s.size cap] := by
    unfold Has at h1 ⊢
    rw [setRow_other _ _ _ _ (by omega)]
    exact h1
  have h3 := h2.put 1 (.slice (some ⟨w.heap.size, 0, none⟩) s.size cs.size)
  have hn : ((w.alloc (.cells cs 5)).setRow w.heap.size (Lib.strCells s ++ cs.toList.drop s.size).toArray).heap[w.heap.size]? = some (.cells (Lib.strCells s ++ cs.toList.drop s.size).toArray 5 (0, 0)) := setRow_heap _ _ _ _ _ _ (heap_alloc_new w _)
  refine ⟨⟨hB, .slice (some ⟨w.heap.size, 0, none⟩) s.size cs.size, by simpa using h3, ⟨by rw [hls, Nat.mul_one], .inr ⟨w.heap.size, cs.size, (Lib.strCells s ++ cs.toList.drop s.size).toArray, rfl, hBw, ?_, hle, hm, ?_, ?_⟩⟩⟩, ⟨?_, ?_, ?_⟩⟩
  · rw [← hn]
    exact Below.heap_setCell _ ⟨b, 1, none⟩ _ _ (by show w.heap.size ≠ b; omega)
  · rw [List.size_toArray, List.length_append, hls, List.length_drop, Array.length_toList]; omega
  · show List.take (s.size * 1) (Lib.strCells s ++ cs.toList.drop s.size) = _
    rw [Nat.mul_one, List.take_append_of_le_length (by omega), List.take_of_length_le (by omega)]
  · exact (below_setRow ((Below.refl B w).alloc hBw _) hBw _).setCell (by exact hB) _
  · simp [World.setCell]
  · intro i hi hne _
    refine (Below.heap_setCell _ ⟨b, 1, none⟩ _ i hne).trans ?_
    rw [setRow_other _ _ _ _ (by omega)]
    exact Below.heap_alloc w _ i hi
theorem bk_heap {B b : Nat} {w : World} {cs ds : Array Value} {t : TypeId} {v : Value} {a : Addr} (h : BKeeps B b w (((w.alloc (.cells cs t)).setRow w.heap.size ds).setCell a v)) : BKeeps B b w (((w.alloc (.cells cs t)).drew.drew.drew.setRow w.heap.size ds).setCell a v) := ⟨((h.1.drew).drew).drew, h.2.1, h.2.2⟩
set_option maxRecDepth 100000 in
set_option maxHeartbeats 2000000 in
theorem growK_any (B b g cap n : Nat) (s : ByteArray) (h0 : s.size ≠ 0) (cur : Array Value) (w : World) (hBw : B ≤ w.heap.size) (hB : B ≤ b) (hH : Has w b 43 #[.pointer (some ⟨b, 0, none⟩), .slice (some ⟨g, 0, none⟩) s.size cap]) (hg : w.heap[g]? = some (.cells cur 5 (0, 0))) (hsc : s.size ≤ cap) (hcs : cur.size = cap) (hown : w.ownsRow B 5 1 (.slice (some ⟨g, 0, none⟩) s.size cap) s.size (Lib.strCells s)) (hn : 2 * cap + n ≤ 281474976710656) :
    Calls Try.prog 33 #[.pointer (some ⟨b, 0, none⟩), .int .i64 n] w fun e w' => e = .returned (.tuple #[]) ∧ Bld B b true s w' ∧ BKeeps B b w w' := by
  obtain ⟨cs, hrun, hle, hmax⟩ := Lib.run_makeNoZero (P := Try.prog) w.drew #[3] 38 5 Try.underlying38 (2 * cap + n) hn
  have hw : IntKind.i64.wrap (IntKind.i64.wrap (2 * (cap : Int)) + (n : Int)) = ((2 * cap + n : Nat) : Int) := by
    rw [IntKind.wrap_i64, IntKind.wrap_i64]
    omega
  have hcall : (callFunc 49 #[.int .i64 (IntKind.i64.wrap (IntKind.i64.wrap (2 * (cap : Int)) + (n : Int)))]).run Try.prog w.drew = .ok (.value (.slice (some ⟨w.drew.heap.size, 0, none⟩) (2 * cap + n) cs.size)) (w.drew.drew.drew.alloc (.cells cs 5)) := by
    rw [hw, run_callFunc_extern Try.func49 (by kernel_rfl) (by kernel_rfl) (by kernel_rfl) (e := Extern.BytealgMakeNoZero.makeNoZero #[3] #[38]) (by kernel_rfl), hrun]
    rfl
  have c1 : w.drew.cell? ⟨b, 1, none⟩ = some (.slice (some ⟨g, 0, none⟩) s.size cap) := (Has.drew hH).cell 1
  have c2 : (w.alloc (.cells cs 5)).cell? ⟨b, 1, none⟩ = some (.slice (some ⟨g, 0, none⟩) s.size cap) := (hH.alloc _).cell 1
  have f2 : (w.alloc (.cells cs 5)).frozen? ⟨b, 1, none⟩ = false := (hH.alloc _).frozen 1
  have hscs : s.size ≤ cs.size := by omega
  clear hw
  have HF := hid (bld_grown hB hH hBw (hmax (by unfold maxLen; omega)) hscs)
  have HC := hid (show ∀ j v, (Lib.strCells s)[j]? = some v → ((w.alloc (.cells cs 5)).drew.drew.drew).cell? ((⟨g, 0, none⟩ : Addr).add j) = some v from fun j v hv => by
    have h := hown.cells (g := g) rfl j v hv
    have hlt : g < w.heap.size := (Array.getElem?_eq_some_iff.1 hg).1
    rw [← h]
    exact ((Below.refl (w.heap.size) w).alloc (Nat.le_refl _) _).cell (p := Addr.add ⟨g, 0, none⟩ j) (by unfold Addr.add; split <;> exact hlt))
  have HLT := hid hH.lt
  have HFZ := hid f2
  have HC2 := hid c2
  clear hH
  go_enter Try.func33, Try.ntmps33
  have hls : (Lib.strCells s).length = s.size := by simp [Lib.strCells]
  go_wp2
  go_cut [4] (fun v W => v = .slice (some ⟨w.heap.size, 0, none⟩) s.size cs.size ∧ W = (w.alloc (.cells cs 5)).drew.drew.drew)
  case first =>
    go_region
    all_goals (go_wp2; go_meet; exact ⟨rfl, rfl⟩)
  case rest =>
    obtain ⟨rfl, rfl⟩ := hcut
    have hcopy := run_copy_row (P := Try.prog) ((w.alloc (.cells cs 5)).drew.drew.drew) 38 38 3 5 w.heap.size 0 s.size cs.size ⟨g, 0, none⟩ s.size cap cs 5 (Lib.strCells s) Try.underlying38 (by kernel_rfl) (heap_alloc_new w _) (by rw [hls]; simp) HC.out (by rw [hls]; omega) (by intro v hv; simp [Lib.strCells] at hv; obtain ⟨a, _, rfl⟩ := hv; rfl)
    have hlt : b < w.heap.size := HLT.out
    have f3 : ((w.alloc (.cells cs 5)).drew.drew.drew.setRow w.heap.size (Lib.strCells s ++ List.drop s.size cs.toList).toArray).frozen? ⟨b, 1, none⟩ = false := by
      have e : ((w.alloc (.cells cs 5)).setRow w.heap.size (Lib.strCells s ++ List.drop s.size cs.toList).toArray).heap[b]? = (w.alloc (.cells cs 5)).heap[b]? := setRow_other _ _ _ _ (by omega)
      show ((w.alloc (.cells cs 5)).setRow w.heap.size (Lib.strCells s ++ List.drop s.size cs.toList).toArray).frozen? ⟨b, 1, none⟩ = false
      rw [← HFZ.out]
      simp only [World.frozen?, e]
    have c3 : ((w.alloc (.cells cs 5)).drew.drew.drew.setRow w.heap.size (Lib.strCells s ++ List.drop s.size cs.toList).toArray).cell? ⟨b, 1, none⟩ = some (.slice (some ⟨g, 0, none⟩) s.size cap) := by
      have e : ((w.alloc (.cells cs 5)).setRow w.heap.size (Lib.strCells s ++ List.drop s.size cs.toList).toArray).heap[b]? = (w.alloc (.cells cs 5)).heap[b]? := setRow_other _ _ _ _ (by omega)
      show ((w.alloc (.cells cs 5)).setRow w.heap.size (Lib.strCells s ++ List.drop s.size cs.toList).toArray).cell? ⟨b, 1, none⟩ = _
      rw [← HC2.out]
      simp only [World.cell?, e]
    clear hlt
    go_wp2
    go_returns
    exact ⟨rfl, HF.out.1, bk_heap HF.out.2⟩
set_option maxRecDepth 100000 in
set_option maxHeartbeats 2000000 in
theorem grows_any (B b n : Nat) (s : ByteArray) (h0 : s.size ≠ 0) (hn : s.size + n ≤ 1099511627776) (w : World) (hBw : B ≤ w.heap.size) (h : Bld B b true s w) :
    Calls Try.prog 19 #[.pointer (some ⟨b, 0, none⟩), .int .i64 n] w fun e w' => e = .returned (.tuple #[]) ∧ Bld B b true s w' ∧ BKeeps B b w w' := by
  have HBL := hid h
  obtain ⟨hB, v, hH, hR⟩ := h
  have HR := hid hR
  rcases hR.2 with ⟨rfl, e0⟩ | ⟨g, cap, cur, rfl, h1, hh, h2, h3, hcs, _⟩
  · exact absurd e0 h0
  have c0 : w.cell? ⟨b, 0, none⟩ = some (.pointer (some ⟨b, 0, none⟩)) := hH.cell 0
  have c1 : w.cell? ⟨b, 1, none⟩ = some (.slice (some ⟨g, 0, none⟩) s.size cap) := hH.cell 1
  have HCK := hid (check_used b w c0)
  have hcap : cap ≤ 9223372036854775807 := by unfold maxLen at h3; omega
  have wsub : IntKind.i64.wrap ((cap : Int) - (s.size : Int)) = (cap : Int) - (s.size : Int) := IntWalk.i64_in _ (by omega)
  have hnn : ((n : Int) < 0) = False := by simp
  by_cases hlt : cap - s.size < n
  · have hlt1 : ((cap : Int) - (s.size : Int) < (n : Int)) := by omega
    have hH1 : Has w.drew b 43 #[.pointer (some ⟨b, 0, none⟩), .slice (some ⟨g, 0, none⟩) s.size cap] := hH
    have HG := hid (growK_any B b g cap n s h0 cur w.drew hBw hB hH1 hh h2 (by omega) hR (by omega))
    clear hH hH1 hR hh
    go_enter Try.func19, Try.ntmps19
    go_wp2_with fail
    refine HCK.out.mono ?_
    rintro e w2 ⟨rfl, rfl⟩
    go_wp2
    go_cut [21] (fun v W => v = .bool true ∧ W = w.drew)
    case first =>
      go_region
      all_goals (go_wp2; go_meet; exact ⟨rfl, rfl⟩)
    case rest =>
      obtain ⟨rfl, rfl⟩ := hcut
      go_wp2_with fail
      refine HG.out.mono ?_
      rintro e w3 ⟨rfl, k1, k2⟩
      go_wp2
      go_returns
      exact ⟨rfl, k1, (BKeeps.refl B b w).drew.trans k2⟩
  · have hlt1 : ¬ ((cap : Int) - (s.size : Int) < (n : Int)) := by omega
    clear hH hR hh
    go_enter Try.func19, Try.ntmps19
    go_wp2_with fail
    refine HCK.out.mono ?_
    rintro e w2 ⟨rfl, rfl⟩
    go_wp2
    go_cut [21] (fun v W => v = .bool false ∧ W = w.drew)
    case first =>
      go_region
      all_goals (go_wp2; go_meet; exact ⟨by rw [decide_eq_false (by omega)], rfl⟩)
    case rest =>
      obtain ⟨rfl, rfl⟩ := hcut
      go_wp2
      go_returns
      exact ⟨rfl, HBL.out, (BKeeps.refl B b w).drew⟩
end Go.Proofs.Ytciaebhkemdilab

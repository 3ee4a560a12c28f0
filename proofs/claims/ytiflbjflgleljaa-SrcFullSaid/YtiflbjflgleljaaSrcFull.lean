/- SrcFull returns true for every text, list of ints, place and number, and changes nothing that was there; no condition. -/
import Derived.Test.YtiflbjflgleljaaSrcFullB
import Derived.Test.YtiflbjflgleljaaSrcFullC
import Derived.ChangeSlices
import Derived.Deep.Slices
import Derived.ProofKit
import Derived.OpenShut
import Derived.ShutString
import Derived.ChangeOld
namespace Go.Proofs.Ytiflbjflgleljaa.srcFull
open Go.RowKit Go.ChangeShapes Go.WideShapes Go.ChangeAt
set_option linter.unusedVariables false
open Go.Deep
theorem cells_int : Try.prog.cellsOf 3 = 1 := by kernel_rfl
section
variable {H : Type} {enc : TypeId × Value → H} {w : World} {base : Nat} {spare : Nat → Bool} {held : Bool}
theorem open_zs {n : Nat} {u : Value} {y : DataW H × List MemPlace} (h : DataW.trod enc Try.prog w base spare held n 75 [u] = some y) :
    ∃ (a : Option Addr) (len cap : Nat) (zs : List Int), u = .slice a len cap ∧ len ≤ 9223372036854775807 ∧ zs.length = len ∧ IntsAt w a zs := by
  rcases open_ints Try.underlying75 Try.underlying3 cells_int h with ⟨hcs, _⟩ | ⟨a, len, cap, zs, hcs, _, hl, hm, hz, _, hc, _⟩
  · simp only [List.cons.injEq, and_true] at hcs
    exact ⟨none, 0, 0, [], hcs, by omega, rfl, fun i hi => by simp at hi⟩
  · simp only [List.cons.injEq, and_true] at hcs
    have hlm : len ≤ zs.length := by rw [hz]; split <;> omega
    have hlt : (zs.take len).length = len := by simp; omega
    refine ⟨some a, len, cap, zs.take len, hcs, by unfold maxLen at hm; omega, hlt, fun i hi => ?_⟩
    have hil : i < len := by omega
    have hiz : i < zs.length := by omega
    have c := hc i hiz
    have c0 := hc 0 (by omega)
    have hsp : a.spot = none := by simpa [Addr.add] using World.cell?_spot c0
    obtain ⟨b, off, sp⟩ := a
    obtain rfl : sp = none := hsp
    have a0 : (Addr.add ⟨b, off, none⟩ i) = ⟨b, off + i, none⟩ := by
      unfold Addr.add; by_cases hz : i = 0 <;> simp [hz]
    rw [a0] at c
    refine ⟨b, off, rfl, ?_, ?_⟩
    · rcases Nat.lt_or_ge b w.heap.size with hlt' | hge
      · exact hlt'
      · simp [World.cell?, Array.getElem?_eq_none hge] at c
    · rw [c]; simp [List.getD_eq_getElem?_getD, hiz]
end
theorem walk (s : ByteArray) (hs : s.size ≤ 140737488351232) (A : Option Addr) (len cap : Nat) (hlen : len ≤ 9223372036854775807) (zs : List Int) (hll : zs.length = len) (at1 n : Int) (a1 : -9223372036854775808 ≤ at1) (a2 : at1 ≤ 9223372036854775807) (n1 : -9223372036854775808 ≤ n) (n2 : n ≤ 9223372036854775807) (w : World) (hst : IntsAt w A zs) :
    Calls Try.prog 11 #[.agg #[.string s, .slice A len cap, .int .i64 at1, .int .i64 n]] w fun e w' => e = .returned (.bool true) ∧ Bw w w' := by
  by_cases ha : at1 < 0
  · exact walk_bad1 s hs A len cap hlen zs (hid hll) at1 n a1 ha n1 n2 w hst
  obtain ⟨p, rfl⟩ := Int.eq_ofNat_of_zero_le (show 0 ≤ at1 by omega)
  by_cases hn : n < 0
  · exact walk_bad2 s hs A len cap hlen zs (hid hll) p n (by omega) hn n1 w hst
  obtain ⟨m, rfl⟩ := Int.eq_ofNat_of_zero_le (show 0 ≤ n by omega)
  by_cases hm : 1048576 < m
  · exact walk_bad3 s hs A len cap hlen zs (hid hll) p m (by omega) hm (by omega) w hst
  by_cases hp : s.size < p
  · by_cases hz : m = 0
    · exact walk_cut0 s hs A len cap hlen zs (hid hll) p m hp (by omega) (by omega) w hst
    · exact walk_cutA s hs A len cap hlen zs (hid hll) p m hp (by omega) (by omega) (by omega) w hst
  by_cases hq : s.size < p + m
  · exact walk_cutB s hs A len cap hlen zs (hid hll) p m (by omega) hq (by omega) w hst
  exact walk_all s hs A len cap hlen zs (hid hll) p m (by omega) (by omega) w hst

/-! The frame: from the walk to the statement. -/
theorem own : ownKnob Try.prog.godebug = none := by kernel_rfl
theorem laidOut : laidOutB Try.prog = true := by kernel_rfl
set_option maxRecDepth 100000 in
theorem lifted (os : Os) (started : os.Started) (H : Type) (enc : TypeId × Value → H) :
    ReturnsInHanded {} Try.checked os 11 .any (Rows.srcFullSpec.pre6 enc Try.prog Try.f11 Rows.srcFullRow.domain false) (Rows.srcFullSpec.post enc Try.prog Try.f11 false true false false) := by
  refine returnsInHanded_of_change_sized (C := Try.checked) own started (by kernel_rfl) Try.func11
    (ChangeSpec.witness6 (enc := enc) (C := Try.checked) false ⟨#[], #[.agg #[.string ⟨#[]⟩, .slice none 0 0, .int .i64 0, .int .i64 0]], []⟩ 8 (by kernel_rfl) (by kernel_rfl) (by kernel_rfl) (by kernel_rfl)) ?_
  intro W base args ds gs before hval0 hW hcnd hsz0 _
  have hval : ∀ (j : Nat) t v, Try.f11.params[j]? = some t → args[j]? = some v → Value.okWide Try.prog W .any base t v := hval0
  have hW' := hW
  obtain ⟨p, q, hA0, hV, rfl, hfz, hnd⟩ := hW
  have hA : DataW.TrodAll enc Try.prog W 0 (fun _ => true) true Try.f11.params.toList args.toList ds p := hA0
  have hsz : (DataW.weightsEach Try.prog (Try.f11.params.toList ++ Rows.srcFullSpec.plain.varTypes Try.prog) (ds ++ gs)).all (· ≤ reachBytes) = true := hsz0
  rw [Try.params11] at hA hval hsz
  obtain ⟨v0, d0, rfl, rfl, h0⟩ := trodAll_one hA
  obtain ⟨rfl, rfl⟩ := trodVars_none hV
  have k0 := h0
  have lt0 : ∀ x ∈ p, x.block < W.heap.size := by obtain ⟨m, hm⟩ := k0; exact DataW.trod_lt m _ _ _ hm
  obtain ⟨cs, ds, rfl, hlen, rfl, hdl, hf⟩ := open_struct Try.underlying77 (by kernel_rfl) (by kernel_rfl) (hval 0 77 v0 rfl rfl) h0
  obtain ⟨x0, c0, e0⟩ := hf.string 0 rfl Try.underlying9
  have z0 := string_reach hsz (j := 0) (i := 0) rfl rfl Try.underlying77 rfl e0
  obtain ⟨x1, y1, m1, c1, _, t1⟩ := hf 1 _ rfl
  obtain ⟨A1, len1, cap1, zs1, rfl, hl1, hll1, hst1⟩ := open_zs t1
  obtain ⟨x2, c2, e2, w2⟩ := hf.int 2 rfl Try.underlying3
  obtain ⟨x3, c3, e3, w3⟩ := hf.int 3 rfl Try.underlying3
  obtain rfl := list4 hlen c0 c1 c2 c3
  clear hA0 hval0
  try simp only [List.append_nil] at hW'
  refine (walk x0 z0 A1 len1 cap1 hl1 zs1 hll1 x2 x3 (bounds_i64 w2).1 (bounds_i64 w2).2 (bounds_i64 w3).1 (bounds_i64 w3).2 W hst1).mono fun e W' ⟨he, bel⟩ => ?_
  subst he
  exact ⟨_, rfl, _, _, _, [], _, [], hW', trodAll_mk1 (shut_bool Try.underlying4 _), trodAll_mk1 (Below.trod laidOut (by kernel_rfl) (of_decide_eq_true (by kernel_rfl)) k0 bel lt0), rfl, Below.frame bel _, fun h => by cases h⟩

theorem proved : Rows.SrcFullSaid :=
  OpenClaim.holds_of_wide 11 Try.f11 rfl rfl rfl rfl rfl rfl rfl ⟨rfl, rfl, rfl, rfl, rfl⟩ rfl rfl rfl rfl rfl (by kernel_rfl) Try.func11 (by kernel_rfl)
    (of_decide_eq_true (by kernel_rfl)) (by unfold Func.isWrapper; first | (rw [if_pos (by decide +kernel)]; kernel_rfl) | (rw [if_neg (by decide +kernel)]; exact ⟨rfl, rfl⟩))
    (fun os started H enc _ => lifted os started H enc)
end Go.Proofs.Ytiflbjflgleljaa.srcFull

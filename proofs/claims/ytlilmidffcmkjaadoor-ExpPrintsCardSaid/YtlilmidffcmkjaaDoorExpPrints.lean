/- ExpPrints returns true for every list of expressions and every index, and changes nothing that was there; no condition but that the listed variables hold what the program's text lays. -/
import Derived.Test.YtlilmidffcmkjaaDoorExpTb
import Derived.Test.YtlilmidffcmkjaaDoorLawKit
import Derived.ShutString
import Derived.ChangeOld
import Derived.SizedLaws
import Derived.Deep.RegionWith
import Derived.Test.YtlilmidffcmkjaaDoorExpSc
import Derived.Test.YtlilmidffcmkjaaDoorExpSd
import Derived.Maps.AppendAt
import Derived.Laws.AppendOwnNone
import Derived.Deep.Slices
namespace Go.Proofs.YtlilmidffcmkjaaDoor.expPrints
open Go.ChangeShapes Go.WideShapes Go.ChangeAt Go.WideMaps Go.WideElems Go.RowKit
open Go.ChangeMaps (open_string shut_string)
set_option linter.unusedVariables false
section
variable {H : Type} {enc : TypeId × Value → H} {w : World} {base : Nat} {spare : Nat → Bool} {held : Bool}
theorem nil_cap {n : Nat} {u : Value} {y : DataW H × List MemPlace} {A : Option Addr} {len cap : Nat} (h : DataW.trod enc Tryd.prog w base spare held n 22 [u] = some y) (he : u = .slice A len cap) : A = none → cap = 0 := by
  intro hA
  subst hA
  rcases Go.Deep.open_slice Tryd.underlying22 h with ⟨hcs, _⟩ | ⟨a, len', cap', mm, nn, D, Pl, hcs, _⟩
  · simp only [List.cons.injEq, and_true] at hcs
    rw [hcs] at he
    injection he with _ _ h3
    exact h3.symm
  · simp only [List.cons.injEq, and_true] at hcs
    rw [hcs] at he
    injection he with h1
    cases h1
end
theorem one_exp (l : List ExpR) : ∀ u ∈ expCells l, u.oneCell' = true := fun u hu => by
  unfold expCells at hu
  obtain ⟨x, _, hx⟩ := List.mem_flatMap.1 hu
  simp [expCell] at hx
  rcases hx with rfl | rfl | rfl | rfl | rfl <;> rfl
/-- append(nil, expressions...) -/
theorem wpList_app_exp {w : World} {ops : Array Oper} {rest : List Oper} {o : Oper} {a : Act} {Q : Exit → Act → World → Prop} (hgd : o.guard = none) (s x : Operand)
    (ho : o.op = .call { callee := .builtin .append, args := #[s, x], argTypes := #[22, 22] }) {A : Option Addr} {len cap : Nat} {l : List ExpR} (hs : a.eval s = .slice none 0 0) (hx : a.eval x = .slice A len cap)
    (hA : A = none → cap = 0) (hst : ExpAt w A l) (hll : l.length = len) (hb : len ≤ 401)
    (h : ∀ v' w', w'.ownsRow w.heap.size 42 5 v' len (expCells l) → Bw w w' → wpList Tryd.prog ops Q rest (a.put o.dst v') w') : wpList Tryd.prog ops Q (o :: rest) a w := by
  obtain ⟨i0, hi, hz0, hz1, hz2⟩ := info_parts expInfo
  have hnil : w.ownsRow w.heap.size 42 5 (.slice none 0 0) 0 [] := ⟨rfl, .inl ⟨rfl, rfl⟩⟩
  cases A with
  | none =>
    have hl0 : l = [] := by
      cases l with
      | nil => rfl
      | cons y l => obtain ⟨b, off, e, _⟩ := hst 0 (by simp); cases e
    subst hl0
    have : len = 0 := by rw [← hll]; rfl
    subst this
    rw [hA rfl] at hx
    exact wpList_append_own_none hgd s x _ ho w.heap.size _ i0 5 Tryd.underlying22 hi _ 0 [] hs hnil hx (by
      exact h _ _ ⟨rfl, .inl ⟨rfl, rfl⟩⟩ (Bw.refl _))
  | some ad =>
    refine wpList_append_own_at _ hgd s x _ ho w.heap.size _ i0 (.agg #[.string ⟨#[]⟩, .string ⟨#[]⟩, .int .u64 0, .int .i64 0, .int .i64 0]) 5 56 Tryd.underlying22 hi hz0 hz1 hz2 rfl (by decide) (.slice none 0 0) 0 [] hs hnil ad len cap (expCells l) hx (by rw [expCells_len, hll]) (fun j u hj => ?_) (one_exp l) (by unfold maxLen; omega) (by omega) (Nat.le_refl _) ?_
    · have hj2 : j < l.length * 5 := by
        have := (List.getElem?_eq_some_iff.1 hj).1
        rwa [expCells_len] at this
      obtain ⟨b, off, e, _, c0, c1, c2, c3, c4, _⟩ := hst (j / 5) (by omega)
      obtain rfl : ad = ⟨b, off, none⟩ := Option.some.inj e
      have ea : (Addr.add ⟨b, off, none⟩ j) = ⟨b, off + j, none⟩ := by
        unfold Addr.add; by_cases hz : j = 0 <;> simp [hz]
      have hg := expCells_get l (j / 5) (by omega) (j % 5) (by omega)
      rw [show j / 5 * 5 + j % 5 = j by omega] at hg
      rw [hg] at hj
      rw [ea]
      have h5 : j % 5 = 0 ∨ j % 5 = 1 ∨ j % 5 = 2 ∨ j % 5 = 3 ∨ j % 5 = 4 := by omega
      rcases h5 with m | m | m | m | m
      · rw [m] at hj; rw [show off + j = off + j / 5 * 5 by omega]; exact c0.trans hj
      · rw [m] at hj; rw [show off + j = off + j / 5 * 5 + 1 by omega]; exact c1.trans hj
      · rw [m] at hj; rw [show off + j = off + j / 5 * 5 + 2 by omega]; exact c2.trans hj
      · rw [m] at hj; rw [show off + j = off + j / 5 * 5 + 3 by omega]; exact c3.trans hj
      · rw [m] at hj; rw [show off + j = off + j / 5 * 5 + 4 by omega]; exact c4.trans hj
    · intro v' w' ho' hg _ _
      rw [Nat.zero_add, List.nil_append] at ho'
      exact h v' w' ho' ⟨hg.os, hg.tape, hg.output, hg.size, fun k hk => hg.block k hk (by intro hx; cases hx)⟩
theorem ok_exp {w : World} {a : Option Addr} {l : List ExpR} (h : ExpAt w a l) : ∀ x ∈ l, x.Ok := fun x hx => by
  obtain ⟨i, hi, rfl⟩ := List.getElem_of_mem hx
  obtain ⟨_, _, _, _, _, _, _, _, _, hk⟩ := h i hi
  exact hk
set_option maxRecDepth 100000 in
set_option maxHeartbeats 8000000 in
theorem walk (a : Option Addr) (len cap : Nat) (hlen : len ≤ 9223372036854775807) (l : List ExpR) (hll : Hid (l.length = len)) (i : Int) (hi : Lit.wf (.int .i64 i) = true) (w : World) (hst : ExpAt w a l) (hcap : a = none → cap = 0) (hh : EnvAt w) :
    Calls Tryd.prog 4 #[.slice a len cap, .int .i64 i] w fun e w' => e = .returned (.bool true) ∧ Bw w w' := by
  have H := hid hh
  by_cases c1 : 401 < len
  · have t1 : (401 : Int) < len := by omega
    clear hst hh c1 hi hcap
    go_enter Tryd.func4, Tryd.ntmps4
    go_wp2_with fail
    refine (live_any w (H.out)).mono ?_
    rintro e wl ⟨rfl, hbl⟩
    have HBL := hid hbl
    clear hbl
    go_wp2
    go_returns
    exact ⟨rfl, HBL.out⟩
  · have t1 : ¬ (401 : Int) < len := by omega
    have HST := hid hst
    have HCAP := hid hcap
    have HR := hid (fun W (h : Bw w W) => rprint_any a len cap hlen l hll i W (hst.below h))
    have HPX := hid (fun (b : Option Addr) (c : Nat) W (h : Bw w W) (hb : ExpAt W b l) => print_any b len c hlen l hll i W hb (hh.bw h).sgn (hh.bw h).pow)
    have h401 : len ≤ 401 := by omega
    generalize (printX l i).1 = x at *
    generalize (printX l i).2 = y at *
    clear hst hh c1 hi hcap
    go_enter Tryd.func4, Tryd.ntmps4
    go_wp2_with (at_builtin; refine wpList_app_exp rfl (.tmp 14) (.tmp 15) rfl rfl rfl HCAP.out HST.out hll.out h401 ?_; intro v5 w5 hown5 hb5; obtain ⟨vo5, vc5, rfl⟩ := own_slice hown5; have HB5 := hid hb5; have HO5 := hid (ExpAt.of_own (by rw [hll.out]; exact hown5) (ok_exp HST.out)); clear hown5 hb5)
    refine (HPX.out vo5 vc5 w5 HB5.out HO5.out).mono ?_
    rintro e w6 ⟨rfl, hb6⟩
    have HB6 := hid (HB5.out.trans hb6)
    have HO6 := hid (HO5.out.below hb6)
    clear hb6
    go_wp2_with fail
    refine (HR.out w6 HB6.out).mono ?_
    rintro e w7 ⟨rfl, hb7⟩
    have HB7 := hid (HB6.out.trans hb7)
    have HO7 := hid (HO6.out.below hb7)
    clear hb7
    go_wp2_with fail
    refine (same_eq vo5 a len vc5 cap hlen l hll w7 HO7.out (HST.out.below HB7.out)).mono ?_
    rintro e w8 ⟨rfl, hb8⟩
    have HB8 := hid (HB7.out.trans hb8)
    clear hb8
    go_wp2_with fail
    refine (live_any w8 (H.out.bw HB8.out)).mono ?_
    rintro e wl ⟨rfl, hbl⟩
    have HBL := hid hbl
    clear hbl
    go_wp2
    go_returns
    exact ⟨rfl, HB8.out.trans HBL.out⟩

/-! The frame: from the walk to the statement. -/
set_option maxRecDepth 100000 in
theorem lifted (os : Os) (started : os.Started) (H : Type) (enc : TypeId × Value → H) :
    ReturnsInHanded {} Tryd.checked os 4 .any (fun w args => (Rows.expPrintsSpec.pre enc Tryd.prog Tryd.f4 [] false w args ∧ laidMetH Tryd.prog Rows.expChecksRow.laid w) ∧ sizedMet enc Tryd.prog Tryd.f4 (OpenSpec.ofChange Rows.expPrintsSpec) false w args)
      (Rows.expPrintsSpec.post enc Tryd.prog Tryd.f4 false true false false) := by
  refine returnsInHanded_of_change_and (C := Tryd.checked) (X := fun w _ => laidMetH Tryd.prog Rows.expChecksRow.laid w) (fun _ _ _ hh h => h.of_heap hh) own started (by kernel_rfl) Tryd.func4
    (ChangeSpec.witness_shaped (enc := enc) (C := Tryd.checked) (os := os) (X := fun w _ => laidMetH Tryd.prog Rows.expChecksRow.laid w) false (World.laidAll Tryd.prog os Rows.expChecksRow.laid) #[.slice none 0 0, .int .i64 0] 8 (World.laidAll_os _ _ _) (World.shaped_of_ZipB (by kernel_rfl) (by kernel_rfl)) (by kernel_rfl) (by kernel_rfl) (by kernel_rfl) (laid_met os _)) ?_
  intro W base args ds gs before hval0 hW _ hsz0 hL _
  have hval : ∀ (j : Nat) t v, Tryd.f4.params[j]? = some t → args[j]? = some v → Value.okWide Tryd.prog W .any base t v := hval0
  have hW' := hW
  obtain ⟨p, q, hA0, hV, rfl, hfz, hnd⟩ := hW
  have hA : DataW.TrodAll enc Tryd.prog W 0 (fun _ => true) true Tryd.f4.params.toList args.toList ds p := hA0
  have hsz : (DataW.weightsEach Tryd.prog (Tryd.f4.params.toList ++ Rows.expPrintsSpec.plain.varTypes Tryd.prog) (ds ++ gs)).all (· ≤ reachBytes) = true := hsz0
  rw [Tryd.params4] at hA hval hsz
  obtain ⟨v0, vs0, d0, ds0, p0, q0, hargs, rfl, rfl, h0, r0⟩ := trodAll_cons hA
  obtain ⟨v1, vs1, d1, ds1, p1, q1, rfl, rfl, rfl, h1, r1⟩ := trodAll_cons r0
  obtain ⟨rfl, rfl, rfl⟩ := trodAll_nil r1
  obtain rfl : args = #[v0, v1] := by cases args; simp_all
  obtain ⟨rfl, rfl⟩ := trodVars_none hV
  have k0 := h0
  have lt0 : ∀ x ∈ p0, x.block < W.heap.size := by obtain ⟨m, hm⟩ := k0; exact DataW.trod_lt m _ _ _ hm
  obtain ⟨oa0, ol0, oc0, rfl⟩ := okWide_slice Tryd.underlying22 (hval 0 22 v0 rfl rfl)
  obtain ⟨m0, t0⟩ := h0
  obtain ⟨A0, len0, cap0, l0, he0, hl0, hll0, hst0⟩ := open_exp t0
  rw [he0] at hW' k0 ⊢
  obtain ⟨a1, rfl, rfl, rfl, w1⟩ := open_int Tryd.underlying3 (hval 1 3 v1 rfl rfl) h1
  clear hA0 hval0
  try simp only [List.append_nil] at hW'
  refine (walk A0 len0 cap0 hl0 l0 hll0 a1 w1 W hst0 (nil_cap t0 he0) (env_of hL)).mono fun e W' ⟨he, bel⟩ => ?_
  subst he
  exact ⟨_, rfl, _, _, _, [], _, [], hW', trodAll_mk1 (shut_bool Tryd.underlying4 _), (trodAll_cons_mk (Below.trod laidOut (by kernel_rfl) (of_decide_eq_true (by kernel_rfl)) k0 bel lt0) (trodAll_cons_mk (shut_int Tryd.underlying3 w1) trodAll_mk0)), rfl, Below.frame bel _, fun h => by cases h⟩

theorem holds : Rows.ExpPrintsSaid :=
  OpenClaim.holds_of_wide 4 Tryd.f4 rfl rfl rfl rfl rfl rfl rfl ⟨rfl, rfl, rfl, rfl, rfl⟩ rfl rfl rfl rfl rfl (by kernel_rfl) Tryd.func4 (by kernel_rfl)
    (of_decide_eq_true (by kernel_rfl)) (by unfold Func.isWrapper; first | (rw [if_pos (by decide +kernel)]; kernel_rfl) | (rw [if_neg (by decide +kernel)]; exact ⟨rfl, rfl⟩))
    (fun os started H enc _ => lifted os started H enc)

theorem proved : Rows.ExpPrintsCardSaid :=
  Claim7.holds_tied_plain_at .later [] [.data, .data, .data, .data, .sentinel, .sentinel, .data, .pinned] true _ true
    holds (fun _ h => by cases h) (by kernel_rfl) (fun _ h => by cases h) expPrints_row_tie rfl ⟨rfl, rfl⟩ (by kernel_rfl) rfl
    (fun f fn hf hfn => by
      obtain rfl : f = 4 := Option.some.inj ((show Tryd.prog.funcNamed "mortise/mortiselaw11.ExpPrints" = some 4 by kernel_rfl).symm.trans hf) |>.symm
      obtain rfl : fn = Tryd.f4 := (Option.some.inj (Tryd.func4.symm.trans hfn)).symm
      exact ⟨by kernel_rfl, fun j t ht => by
        rw [Tryd.params4] at ht
        have hm : t ∈ [22, 3] := by simpa using Array.mem_of_getElem? ht
        have hall : ([22, 3].all fun u => !Tryd.prog.wantsStandIn u) = true := by kernel_rfl
        exact (show Tryd.prog.wantsStandIn t = false by simpa using List.all_eq_true.1 hall t hm)⟩)
    (by kernel_rfl)
end Go.Proofs.YtlilmidffcmkjaaDoor.expPrints

/- The document's All (contract of the function). -/
import Derived.Test.YtgkgimfdbkpbdaaDoorWavI
import Derived.Deep.RegionHeld3
import Derived.Deep.DeepCutAuto
namespace Go.Proofs.YtgkgimfdbkpbdaaDoor
open Go.RowKit
set_option linter.unusedVariables false
set_option linter.unusedSimpArgs false
theorem chk_nil0 (w : World) (B : Nat) : w.ownsRow B 42 2 (.slice none 0 0) ([] : List ChkR).length (chkCells []) := ⟨rfl, .inl ⟨rfl, rfl⟩⟩
theorem step_app_chk {w : World} {ops : Array Oper} {o : Oper} {a : Act} {K : Act → World → Prop} {Q : Exit → Act → World → Prop} {E : Prop} (hgd : o.guard = none) (s x : Operand)
    (ho : o.op = .call { callee := .builtin .append, args := #[s, x], argTypes := #[23, 23] }) (B : Nat) (v : Value) (l1 l2 : List ChkR) (hs : a.eval s = v) (hown : w.ownsRow B 42 2 v l1.length (chkCells l1)) (A : Option Addr) (n cap : Nat) (hx : a.eval x = .slice A n cap) (hn : l2.length = n) (hA : A = none → n = 0 ∧ cap = 0) (hc : ChkAt w A l2) (hz : l1.length + n ≤ 1000000) (hB : B ≤ w.heap.size)
    (h : ∀ v' w', w'.ownsRow B 42 2 v' (l1 ++ l2).length (chkCells (l1 ++ l2)) → w.grownBy w' v.ownBlock → K (a.put o.dst v') w') :
    if Region.wanted o (yielded ops a.tmps) = true then Oper.wp Tryd.prog o a w K Q else E := by
  have hw : Region.wanted o (yielded ops a.tmps) = true := by simp [Region.wanted, hgd]
  rw [if_pos hw]
  obtain ⟨v', w', hr, k1, k2⟩ := app_chk (ty := o.type) w B v l1 l2 hown A n cap hn hA hc hz hB
  unfold Oper.wp execOp
  simp only [ho, resolve, invoke, builtin, Sem.run_bind, Sem.run_pure, Result.andThen_ok, List.map_toArray, List.map_cons, List.map_nil, hs, hx, hr]
  exact h v' w' k1 k2
set_option maxRecDepth 100000 in
set_option maxHeartbeats 8000000 in
theorem rAll_any (c r b : Nat) (hc : 1 ≤ c ∧ c ≤ 16) (hr : 1 ≤ r ∧ r ≤ 16777216) (hb : b = 8 ∨ b = 16 ∨ b = 24 ∨ b = 32) (fr : ByteArray) (hfz : fr.size ≤ 9223372036854775807) (A : Option Addr) (len cap : Nat) (l : List ChkR) (hll : l.length = len) (hl40 : len ≤ 40) (hA : A = none → len = 0 ∧ cap = 0) (w : World) (hst : ChkAt w A l) (hok : ∀ x ∈ l, x.Ok) :
    Calls Tryd.prog 38 #[.agg #[.int .i64 (c : Nat), .int .i64 (r : Nat), .int .i64 (b : Nat), .string fr, .slice A len cap]] w fun e w' => ∃ v cp, e = .returned (.slice v (len + 2) cp) ∧ Bw w w' ∧ ChkAt w' v (⟨fmtT, fmtN c r b⟩ :: ⟨dataT, fr⟩ :: l) := by
  have HFO := hid (fun W => rFormat_any c r b hc hr hb fr A len cap W)
  have HFZ := hid (fmtN_size c r b)
  have HST := hid hst
  have HLL := hid hll
  have HOK := hid hok
  unfold fmtT dataT
  obtain ⟨F, hF⟩ : ∃ F, fmtN c r b = F := ⟨_, rfl⟩
  rw [hF] at HFO HFZ ⊢
  have HO2 := hid (show ∀ x ∈ [(⟨⟨#[102, 109, 116, 32]⟩, F⟩ : ChkR), ⟨⟨#[100, 97, 116, 97]⟩, fr⟩], x.Ok from fun x hx => by
    rcases List.mem_cons.1 hx with rfl | hx
    · exact ⟨by show (⟨#[102, 109, 116, 32]⟩ : ByteArray).size ≤ _; decide, by show F.size ≤ _; rw [HFZ.out]; decide⟩
    · rw [List.mem_singleton] at hx
      subst hx
      exact ⟨by show (⟨#[100, 97, 116, 97]⟩ : ByteArray).size ≤ _; decide, hfz⟩)
  clear hF hst hok hc hr hb
  have HB1 := hid ((Bw.refl w).alloc (.cells #[.int .i64 (c : Nat), .int .i64 (r : Nat), .int .i64 (b : Nat), .string fr, .slice A len cap] 34))
  have HX1 := hid (Has.new w 34 #[.int .i64 (c : Nat), .int .i64 (r : Nat), .int .i64 (b : Nat), .string fr, .slice A len cap])
  obtain ⟨na, hna⟩ : ∃ na, w.heap.size = na := ⟨_, rfl⟩
  rw [hna] at HX1
  go_enter Tryd.func38, Tryd.ntmps38
  go_upto_region 2 with fail
  generalize w.alloc (.cells #[.int .i64 (c : Nat), .int .i64 (r : Nat), .int .i64 (b : Nat), .string fr, .slice A len cap] 34) = w1 at *
  have HSK := hid (fun W (hW : Bw w1 W) => (show W.cell? ⟨na, 0, none⟩ = some (.int .i64 (c : Nat)) ∧ W.cell? ⟨na, 1, none⟩ = some (.int .i64 (r : Nat)) ∧ W.cell? ⟨na, 2, none⟩ = some (.int .i64 (b : Nat)) ∧ W.cell? ⟨na, 3, none⟩ = some (.string fr) ∧ W.cell? ⟨na, 4, none⟩ = some (.slice A len cap) from (hW.has HX1.out).five))
  have HBD := hid (show Bw w1 w1.drew from (Bw.refl w1).drewN 1)
  go_wp2_with fail
  go_region_held3 (fun W => W.cell? ⟨na, 0, none⟩ = some (.int .i64 (c : Nat)) ∧ W.cell? ⟨na, 1, none⟩ = some (.int .i64 (r : Nat)) ∧ W.cell? ⟨na, 2, none⟩ = some (.int .i64 (b : Nat)) ∧ W.cell? ⟨na, 3, none⟩ = some (.string fr) ∧ W.cell? ⟨na, 4, none⟩ = some (.slice A len cap))
    (first | exact HSK.out _ HBD.out | exact HSK.out _ HBf.out | exact HSK.out _ (HBf.out.alloc _) | exact HSK.out _ HB7.out)
    (first | (go_at_call 58; refine (HFO.out _).mono ?_; rintro e wf ⟨rfl, hbf⟩; have HBf := hid (HBD.out.trans hbf); clear hbf) | (refine step_app_chk (by rfl) (.tmp 4) (.tmp 11) (by rfl) w1.heap.size (.slice none 0 0) [] [(⟨⟨#[102, 109, 116, 32]⟩, F⟩ : ChkR), ⟨⟨#[100, 97, 116, 97]⟩, fr⟩] (by rfl) (chk_nil0 (wf.alloc (.cells #[.string ⟨#[102, 109, 116, 32]⟩, .string F, .string ⟨#[100, 97, 116, 97]⟩, .string fr] 42)) w1.heap.size) (some ⟨wf.heap.size, 0, none⟩) 2 2 (by rfl) rfl (fun h => by cases h) (ChkAt.of_own (two_own wf w1.heap.size HBf.out.size _ _ _ _) HO2.out) (by show 0 + 2 ≤ 1000000; omega) (HBf.out.alloc _).size ?_; intro v7 w7 hown7 hgrow7; rw [List.nil_append] at hown7; obtain ⟨ao7, cp7, rfl⟩ := own_slice hown7; have HO7 := hid hown7; have HB7 := hid (show Bw w1 w7 from Below.trans (HBf.out.alloc (.cells #[.string ⟨#[102, 109, 116, 32]⟩, .string F, .string ⟨#[100, 97, 116, 97]⟩, .string fr] 42)) (own_grownJ (chk_nil0 (wf.alloc (.cells #[.string ⟨#[102, 109, 116, 32]⟩, .string F, .string ⟨#[100, 97, 116, 97]⟩, .string fr] 42)) w1.heap.size) hgrow7 (HBf.out.alloc _).size)); clear hown7 hgrow7))
  obtain ⟨x0, x1, x2, x3, x4⟩ := HSK.out w7 HB7.out
  have HC7 := hid (HST.out.below (HB1.out.trans HB7.out))
  have HL8 := hid (show ([(⟨⟨#[102, 109, 116, 32]⟩, F⟩ : ChkR), ⟨⟨#[100, 97, 116, 97]⟩, fr⟩] ++ l).length = len + 2 from by rw [List.length_append, HLL.out]; show 2 + len = len + 2; omega)
  go_wp2_with (at_builtin; refine wpList_app_chk rfl _ _ rfl w1.heap.size _ _ l rfl HO7.out A len cap rfl HLL.out hA HC7.out (by show 2 + len ≤ 1000000; omega) HB7.out.size ?_; intro v8 w8 hown8 hgrow8; obtain ⟨ao8, cp8, hv8⟩ := own_slice hown8; rw [HL8.out] at hv8; subst hv8; have HO8 := hid hown8; have HB8 := hid (show Bw w w8 from HB1.out.trans (Below.trans HB7.out (own_grownJ HO7.out hgrow8 HB7.out.size))); clear hown8 hgrow8)
  go_returns
  refine ⟨ao8, cp8, rfl, HB8.out, ChkAt.of_own (l := [(⟨⟨#[102, 109, 116, 32]⟩, F⟩ : ChkR), ⟨⟨#[100, 97, 116, 97]⟩, fr⟩] ++ l) HO8.out fun x hx => ?_⟩
  rcases List.mem_append.1 hx with h | h
  · exact HO2.out x h
  · exact HOK.out x h
end Go.Proofs.YtgkgimfdbkpbdaaDoor

/- MatchFinds returns true for every text, and changes nothing that was there; no condition. -/
import Derived.Test.YthegehgjpehfkaaMapF
import Derived.Test.YthegehgjpehfkaaMatO
import Derived.Test.YthegehgjpehfkaaMatG
import Derived.Test.YthegehgjpehfkaaMatJ
import Derived.SizedLaws
import Derived.ChangeMaps5
import Derived.Laws.MakeOwn
import Derived.ProofKit
import Derived.OpenShut
import Derived.ShutString
import Derived.ChangeOld
namespace Go.Proofs.Ythegehgjpehfkaa.matchFinds
open Go.RowKit Go.ChangeShapes Go.ChangeMaps Go.WideShapes Go.ChangeAt
set_option linter.unusedVariables false

theorem find_exp {s : ByteArray} (hs : s.size ≤ 20000) {l : List TokR} (h : FindOk s l) {lim : Int} (hl : lim = s.size) : expS l lim = s ∧ expE l lim = 0 := by
  subst hl
  exact exp_end (show lmB (s.size : Int) = true from decide_eq_true ⟨by omega, by omega⟩) h.2.1
set_option maxRecDepth 100000 in
set_option maxHeartbeats 4000000 in
theorem walk (s : ByteArray) (w : World) (hs9 : s.size ≤ 9223372036854775807) :
    Calls Try.prog 5 #[.string s] w fun e w' => e = .returned (.bool true) ∧ Bw w w' := by
  have HL := hid live_any
  by_cases h1 : 20000 < s.size
  · have h1' : (20000 : Int) < s.size := by omega
    go_enter Try.func5, Try.ntmps5
    go_wp2_with fail
    refine (HL.out _).mono ?_
    rintro e w2 ⟨rfl, hb⟩
    go_wp2
    go_returns
    exact ⟨rfl, hb⟩
  · have h1' : ¬ (20000 : Int) < s.size := by omega
    have HF := hid (find_any s (by omega) w)
    go_enter Try.func5, Try.ntmps5
    go_wp2_with fail
    refine HF.out.mono ?_
    rintro e w2 ⟨l, a, cap, rfl, hok, htk, hb, -⟩
    have hl := hok.2.2.1
    have HX := hid (find_exp (by omega) hok rfl)
    have HE := hid (rexp_any a l.length cap (by omega) l (hid rfl) s.size w2 htk)
    have HB := hid hb
    obtain ⟨m, hm⟩ : ∃ m, l.length = m := ⟨_, rfl⟩
    rw [hm] at HE hl
    have hli : (m : Int) ≤ s.size := by omega
    have hld : decide (m ≤ s.size) = true := decide_eq_true hl
    rw [hm]
    clear hok htk hb hm
    go_wp2_with fail
    refine HE.out.mono ?_
    rintro e w3 ⟨rfl, hb⟩
    rw [HX.out.1, HX.out.2]
    have HB3 := hid (HB.out.trans hb)
    clear hb
    go_wp2_with fail
    refine (HL.out _).mono ?_
    rintro e w4 ⟨rfl, hb⟩
    have HB4 := hid (HB3.out.trans hb)
    clear hb
    go_wp2
    go_returns
    exact ⟨rfl, HB4.out⟩

/-! The frame: from the walk to the statement. -/
theorem own : ownKnob Try.prog.godebug = none := by kernel_rfl
theorem laidOut : laidOutB Try.prog = true := by kernel_rfl
set_option maxRecDepth 100000 in
theorem lifted (os : Os) (started : os.Started) (H : Type) (enc : TypeId × Value → H) :
    ReturnsInHanded {} Try.checked os 5 .any (Rows.matchFindsSpec.pre6 enc Try.prog Try.f5 Rows.matchFindsRow.domain false) (Rows.matchFindsSpec.post enc Try.prog Try.f5 false true false false) := by
  refine returnsInHanded_of_change_sized (C := Try.checked) own started (by kernel_rfl) Try.func5
    (ChangeSpec.witness6 (enc := enc) (C := Try.checked) false ⟨#[], #[.string ⟨#[]⟩], []⟩ 8 (by kernel_rfl) (by kernel_rfl) (by kernel_rfl) (by kernel_rfl)) ?_
  intro W base args ds gs before hval0 hW hcnd hsz0 _
  have hval : ∀ (j : Nat) t v, Try.f5.params[j]? = some t → args[j]? = some v → Value.okWide Try.prog W .any base t v := hval0
  have hW' := hW
  obtain ⟨p, q, hA0, hV, rfl, hfz, hnd⟩ := hW
  have hA : DataW.TrodAll enc Try.prog W 0 (fun _ => true) true Try.f5.params.toList args.toList ds p := hA0
  have hsz : (DataW.weightsEach Try.prog (Try.f5.params.toList ++ Rows.matchFindsSpec.plain.varTypes Try.prog) (ds ++ gs)).all (· ≤ reachBytes) = true := hsz0
  rw [Try.params5] at hA hval hsz
  obtain ⟨v0, vs0, d0, ds0, p0, q0, hargs, rfl, rfl, h0, r0⟩ := trodAll_cons hA
  obtain ⟨rfl, rfl, rfl⟩ := trodAll_nil r0
  obtain rfl : args = #[v0] := by cases args; simp_all
  obtain ⟨rfl, rfl⟩ := trodVars_none hV
  obtain ⟨a0, rfl, rfl, rfl, w0⟩ := open_string Try.underlying9 (hval 0 9 v0 rfl rfl) h0
  have z0 := sized_string hsz (j := 0) (t := 9) (bytes := a0.data.toList) rfl rfl
  clear hA0 hval0
  try simp only [List.append_nil] at hW'
  refine (walk a0 W (by have := z0; unfold reachBytes at this; simp at this; omega)).mono fun e W' ⟨he, bel⟩ => ?_
  subst he
  exact ⟨_, rfl, _, _, _, [], _, [], hW', trodAll_mk1 (shut_bool Try.underlying4 _), (trodAll_cons_mk (shut_string Try.underlying9 w0) trodAll_mk0), rfl, Below.frame bel _, fun h => by cases h⟩

theorem proved : Rows.MatchFindsSaid :=
  OpenClaim.holds_of_wide 5 Try.f5 rfl rfl rfl rfl rfl rfl rfl ⟨rfl, rfl, rfl, rfl, rfl⟩ rfl rfl rfl rfl rfl (by kernel_rfl) Try.func5 (by kernel_rfl)
    (of_decide_eq_true (by kernel_rfl)) (by unfold Func.isWrapper; first | (rw [if_pos (by decide +kernel)]; kernel_rfl) | (rw [if_neg (by decide +kernel)]; exact ⟨rfl, rfl⟩))
    (fun os started H enc _ => lifted os started H enc)
end Go.Proofs.Ythegehgjpehfkaa.matchFinds

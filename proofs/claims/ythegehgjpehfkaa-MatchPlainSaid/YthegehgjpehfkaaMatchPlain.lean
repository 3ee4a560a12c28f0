/- MatchPlain returns true for every text, and changes nothing that was there; no condition. -/
import Derived.Test.YthegehgjpehfkaaMatO
import Derived.Test.YthegehgjpehfkaaMatG
import Derived.Test.YthegehgjpehfkaaMatJ
import Derived.SizedLaws
import Derived.ChangeMaps5
import Derived.ProofKit
import Derived.OpenShut
import Derived.ShutString
import Derived.ChangeOld
namespace Go.Proofs.Ythegehgjpehfkaa.matchPlain
open Go.RowKit Go.ChangeShapes Go.ChangeMaps Go.WideShapes Go.ChangeAt
set_option linter.unusedVariables false

theorem isB_lit (x : Nat) : isB ⟨x, 0, 0⟩ = true := rfl
theorem lits_ok (s : ByteArray) (k : Nat) : costOk (lits s k) = true := by
  unfold costOk lits
  rw [List.all_eq_true]
  intro t ht
  obtain ⟨b, _, rfl⟩ := List.mem_map.1 ht
  rfl
theorem lits_len (s : ByteArray) (k : Nat) (h : k ≤ s.size) : (lits s k).length = k := by
  unfold lits
  rw [List.length_map, List.length_take]
  have : s.data.toList.length = s.size := by simp
  omega
theorem lits_lt (s : ByteArray) (k : Nat) : ∀ o ∈ lits s k, o.lit < 256 := by
  unfold lits
  intro t ht
  obtain ⟨b, _, rfl⟩ := List.mem_map.1 ht
  exact b.toNat_lt
theorem expGo_lits (limit : Int) : ∀ (bs out : List UInt8), ((out.length + bs.length : Nat) : Int) ≤ limit → expGo limit (bs.map fun b => ⟨b.toNat, 0, 0⟩) out = (0, out ++ bs)
  | [], out, _ => by simp [expGo]
  | b :: bs, out, h => by
    rw [List.length_cons] at h
    have e : tokE ⟨b.toNat, 0, 0⟩ out.length limit = 0 := by
      unfold tokE
      rw [isB_lit, if_pos rfl, if_neg (by omega)]
    rw [List.map_cons, expGo, if_pos e]
    have e2 : tokX ⟨b.toNat, 0, 0⟩ out = out ++ [b] := by
      unfold tokX
      rw [isB_lit, if_pos rfl]
      simp
    rw [e2, expGo_lits limit bs (out ++ [b]) (by rw [List.length_append, List.length_singleton]; omega)]
    simp
theorem lits_exp (s : ByteArray) (n : Nat) (h : s.size = n) (hn : n ≤ 5000) : expS (lits s n) n = s ∧ expE (lits s n) n = 0 := by
  have hl : s.data.toList.length = n := by simpa using h
  have e : expGo n (lits s n) [] = (0, s.data.toList) := by
    unfold lits
    rw [List.take_of_length_le (by omega)]
    exact expGo_lits n s.data.toList [] (by simp [hl])
  have := exp_end (show lmB (n : Int) = true from decide_eq_true ⟨by omega, by omega⟩) e
  exact ⟨this.1, this.2⟩
theorem lits_cost (s : ByteArray) (n : Nat) : costV (lits s n) = costGo (lits s n) ∧ costE (lits s n) = 0 := by
  unfold costV costE
  rw [lits_ok]
  exact ⟨rfl, rfl⟩
set_option maxRecDepth 100000 in
set_option maxHeartbeats 4000000 in
theorem walk (s : ByteArray) (hs : s.size ≤ 9223372036854775807) (w : World) :
    Calls Try.prog 8 #[.string s] w fun e w' => e = .returned (.bool true) ∧ Bw w w' := by
  obtain ⟨i0, hinf, hz0, hz1, hz2⟩ := info_parts tokInfo
  have HL := hid live_any
  by_cases h1 : 5000 < s.size
  · have h1' : (5000 : Int) < s.size := by omega
    go_enter Try.func8, Try.ntmps8
    go_wp2_with fail
    refine (HL.out _).mono ?_
    rintro e w2 ⟨rfl, hb⟩
    go_wp2
    go_returns
    exact ⟨rfl, hb⟩
  · have h1' : ¬ (5000 : Int) < s.size := by omega
    go_enter Try.func8, Try.ntmps8
    go_wp2
    go_loopw [3, 4, 5] (fun v c i wr => ∃ k : Nat, k ≤ s.size ∧ i = .int .i64 k ∧ c = .int .i64 (costGo (lits s k)) ∧ wr.ownsRow w.heap.size 37 3 v k (tokCells (lits s k)) ∧ Bw w wr) (fun _ _ i _ => s.size - (intOf i).toNat)
    case atStart => exact ⟨0, Nat.zero_le _, rfl, rfl, World.ownsRow_nil _ _ _ _, Bw.refl w⟩
    case round =>
      rename World => wr
      obtain ⟨k, hk, rfl, rfl, hown, hbw⟩ := hrel
      obtain ⟨vo, vc, rfl⟩ := own_slice hown
      have HOW := hid hown
      have HBW := hid hbw
      have hzw := hbw.size
      have hcl := costGo_le _ (lits_ok s k)
      rw [lits_len s k hk] at hcl
      obtain ⟨hcl1, hcl2⟩ := hcl
      by_cases hlt : k < s.size
      · have hk1 : (k : Int) < s.size := by omega
        have HLS := hid (lits_succ s k hlt)
        have HCS := hid (show costGo (lits s (k + 1)) = costGo (lits s k) + litC s[k].toNat by rw [lits_succ s k hlt, costGo_snoc]; rfl)
        generalize costGo (lits s k) = c at *
        have hx9 := s[k].toNat_lt
        generalize hxx : (s[k]'hlt).toNat = x at *
        clear hown hbw
        have hor : (144 ≤ x ∧ litC x = 9) ∨ (x < 144 ∧ litC x = 8) := by
          by_cases h : x < 144
          · exact .inr ⟨h, if_pos h⟩
          · exact .inl ⟨by omega, if_neg h⟩
        rcases hor with ⟨hx, hlc⟩ | ⟨hx, hlc⟩
        · have HC := hid (HCS.out.trans (by rw [hlc]))
          have hxi : (144 : Int) ≤ x := by omega
          clear hlc hx HCS
          go_wp2_with (at_builtin; refine wpList_append_own_at _ rfl (.tmp 20) (.tmp 25) 22 rfl w.heap.size 37 i0 (.agg #[.int .u8 0, .int .i64 0, .int .i64 0]) 3 24 Try.underlying22 hinf hz0 hz1 hz2 rfl (by decide) (.slice vo k vc) k (tokCells (lits s k)) rfl (HOW.out.alloc _) ⟨wr.heap.size, 0, none⟩ 1 1 [.int .u8 x, .int .i64 0, .int .i64 0] rfl rfl (three_at (Has.new wr 37 #[.int .u8 x, .int .i64 0, .int .i64 0])) (by intro u hu; simp at hu; rcases hu with rfl | rfl | rfl <;> rfl) (by unfold maxLen; omega) (by omega) (by simp only [World.size_alloc]; omega) ?_; intro v' w5 hown5 hgrow5 _ _; have HO5 := hid hown5; have HG5 := hid hgrow5; clear hown5 hgrow5)
          refine ⟨⟨k + 1, by omega, by go_num, by first | (rw [HC.out]; done) | (rw [HC.out]; go_num) | (rw [HC.out]; congr 1; omega), by rw [HLS.out, tokCells_snoc]; exact HO5.out, Below.trans (HBW.out.alloc _) (own_grown (by simp only [World.size_alloc]; omega) (fun b hb => own_ge HOW.out hb) HG5.out)⟩, by simp [intOf]; omega⟩
        · have HC := hid (HCS.out.trans (by rw [hlc]))
          have hxi : ¬ (144 : Int) ≤ x := by omega
          clear hlc hx HCS
          go_wp2_with (at_builtin; refine wpList_append_own_at _ rfl (.tmp 20) (.tmp 25) 22 rfl w.heap.size 37 i0 (.agg #[.int .u8 0, .int .i64 0, .int .i64 0]) 3 24 Try.underlying22 hinf hz0 hz1 hz2 rfl (by decide) (.slice vo k vc) k (tokCells (lits s k)) rfl (HOW.out.alloc _) ⟨wr.heap.size, 0, none⟩ 1 1 [.int .u8 x, .int .i64 0, .int .i64 0] rfl rfl (three_at (Has.new wr 37 #[.int .u8 x, .int .i64 0, .int .i64 0])) (by intro u hu; simp at hu; rcases hu with rfl | rfl | rfl <;> rfl) (by unfold maxLen; omega) (by omega) (by simp only [World.size_alloc]; omega) ?_; intro v' w5 hown5 hgrow5 _ _; have HO5 := hid hown5; have HG5 := hid hgrow5; clear hown5 hgrow5)
          refine ⟨⟨k + 1, by omega, by go_num, by first | (rw [HC.out]; done) | (rw [HC.out]; go_num) | (rw [HC.out]; congr 1; omega), by rw [HLS.out, tokCells_snoc]; exact HO5.out, Below.trans (HBW.out.alloc _) (own_grown (by simp only [World.size_alloc]; omega) (fun b hb => own_ge HOW.out hb) HG5.out)⟩, by simp [intOf]; omega⟩
      · have hkn : k = s.size := by omega
        have hn5 : k ≤ 5000 := by omega
        have hL := lits_len s k hk
        have hst : ToksAt wr vo (lits s k) := toksAt_own (cap := vc) (by rw [hL]; exact hown) (lits_lt s k)
        have HE := hid (exp_any vo k vc (by omega) (lits s k) (hid hL) k wr hst)
        have HC := hid (fun (W : World) (h : Bw wr W) => cost_any vo k vc (by omega) (lits s k) (hid hL) W (hst.below h))
        have HX := hid (lits_exp s k hkn.symm hn5)
        have HV := hid (lits_cost s k)
        have hsk : (s.size : Int) = k := by omega
        generalize costGo (lits s k) = c at *
        clear hL hst hown hbw hkn
        go_wp2_with fail
        refine HE.out.mono ?_
        rintro e w2 ⟨rfl, hb⟩
        rw [HX.out.1, HX.out.2]
        have HB2 := hid hb
        clear hb
        go_wp2_with fail
        refine (HC.out _ HB2.out).mono ?_
        rintro e w3 ⟨rfl, hb⟩
        rw [HV.out.1, HV.out.2]
        have HB3 := hid (HB2.out.trans hb)
        clear hb
        go_wp2_with fail
        refine (HL.out _).mono ?_
        rintro e w4 ⟨rfl, hb⟩
        have HB4 := hid (HB3.out.trans hb)
        clear hb
        go_wp2
        go_returns
        exact ⟨rfl, HBW.out.trans HB4.out⟩

/-! The frame: from the walk to the statement. -/
theorem own : ownKnob Try.prog.godebug = none := by kernel_rfl
theorem laidOut : laidOutB Try.prog = true := by kernel_rfl
set_option maxRecDepth 100000 in
theorem lifted (os : Os) (started : os.Started) (H : Type) (enc : TypeId × Value → H) :
    ReturnsInHanded {} Try.checked os 8 .any (Rows.matchPlainSpec.pre6 enc Try.prog Try.f8 Rows.matchPlainRow.domain false) (Rows.matchPlainSpec.post enc Try.prog Try.f8 false true false false) := by
  refine returnsInHanded_of_change_sized (C := Try.checked) own started (by kernel_rfl) Try.func8
    (ChangeSpec.witness6 (enc := enc) (C := Try.checked) false ⟨#[], #[.string ⟨#[]⟩], []⟩ 8 (by kernel_rfl) (by kernel_rfl) (by kernel_rfl) (by kernel_rfl)) ?_
  intro W base args ds gs before hval0 hW hcnd hsz0 _
  have hval : ∀ (j : Nat) t v, Try.f8.params[j]? = some t → args[j]? = some v → Value.okWide Try.prog W .any base t v := hval0
  have hW' := hW
  obtain ⟨p, q, hA0, hV, rfl, hfz, hnd⟩ := hW
  have hA : DataW.TrodAll enc Try.prog W 0 (fun _ => true) true Try.f8.params.toList args.toList ds p := hA0
  have hsz : (DataW.weightsEach Try.prog (Try.f8.params.toList ++ Rows.matchPlainSpec.plain.varTypes Try.prog) (ds ++ gs)).all (· ≤ reachBytes) = true := hsz0
  rw [Try.params8] at hA hval hsz
  obtain ⟨v0, vs0, d0, ds0, p0, q0, hargs, rfl, rfl, h0, r0⟩ := trodAll_cons hA
  obtain ⟨rfl, rfl, rfl⟩ := trodAll_nil r0
  obtain rfl : args = #[v0] := by cases args; simp_all
  obtain ⟨rfl, rfl⟩ := trodVars_none hV
  obtain ⟨a0, rfl, rfl, rfl, w0⟩ := open_string Try.underlying9 (hval 0 9 v0 rfl rfl) h0
  have z0 := sized_string hsz (j := 0) (t := 9) (bytes := a0.data.toList) rfl rfl
  clear hA0 hval0
  try simp only [List.append_nil] at hW'
  refine (walk a0 (by have := z0; unfold reachBytes at this; simp at this; omega) W).mono fun e W' ⟨he, bel⟩ => ?_
  subst he
  exact ⟨_, rfl, _, _, _, [], _, [], hW', trodAll_mk1 (shut_bool Try.underlying4 _), (trodAll_cons_mk (shut_string Try.underlying9 w0) trodAll_mk0), rfl, Below.frame bel _, fun h => by cases h⟩

theorem proved : Rows.MatchPlainSaid :=
  OpenClaim.holds_of_wide 8 Try.f8 rfl rfl rfl rfl rfl rfl rfl ⟨rfl, rfl, rfl, rfl, rfl⟩ rfl rfl rfl rfl rfl (by kernel_rfl) Try.func8 (by kernel_rfl)
    (of_decide_eq_true (by kernel_rfl)) (by unfold Func.isWrapper; first | (rw [if_pos (by decide +kernel)]; kernel_rfl) | (rw [if_neg (by decide +kernel)]; exact ⟨rfl, rfl⟩))
    (fun os started H enc _ => lifted os started H enc)
end Go.Proofs.Ythegehgjpehfkaa.matchPlain

/- BitsReads returns true for every text and every list of ops, and changes nothing that was there; no condition. -/
import Derived.Test.YtfmilakgpocnnaaOpKit
import Derived.Test.YtfmilakgpocnnaaBitXB
import Derived.Deep.QuietTactic
import Derived.SizedLaws
import Derived.ProofKit
import Derived.OpenShut
import Derived.ShutString
import Derived.ChangeOld
namespace Go.Proofs.Ytfmilakgpocnnaa.bitsReads
open Go.RowKit Go.ChangeShapes Go.WideShapes Go.ChangeAt
set_option linter.unusedVariables false
open Go.WideMaps Go.WideElems
open Go.ChangeMaps (open_string shut_string)
theorem str_le {s : ByteArray} (h : s.data.toList.length ≤ reachBytes) : s.size ≤ 140737488351232 := by
  have h4 : s.size = s.data.toList.length := by simp
  have h5 : reachBytes = 140737488351232 := by decide
  omega

set_option maxRecDepth 100000 in
set_option maxHeartbeats 4000000 in
theorem walk (s : ByteArray) (hs : s.size ≤ 281474976710656) (a : Option Addr) (len cap : Nat) (hlen : len ≤ 9223372036854775807) (l : List OpR) (hll : Hid (l.length = len)) (w : World) (hops : OpsAt w a l) :
    Calls Try.prog 3 #[.string s, .slice a len cap] w fun e w' => e = .returned (.bool true) ∧ Bw w w' := by
  have HOPS := hid hops
  clear hops
  go_enter Try.func3, Try.ntmps3
  go_wp2_with fail
  refine (newR_any s _).mono ?_
  rintro e w1 ⟨rfl, hr1, hb1, hz1⟩
  have HR1 := hid hr1
  have HB1 := hid hb1
  clear hr1 hb1
  go_wp2
  go_loopw [7] (fun i wr => ∃ j k : Nat, j ≤ len ∧ i = .int .i64 j ∧ k ≤ 8 * s.size ∧ Rd wr w.heap.size s k ∧ Rx wr w1.heap.size s k ∧ Below w.heap.size w wr ∧ w1.heap.size < wr.heap.size) (fun i _ => len - (intOf i).toNat)
  case atStart =>
    have hn : Has (w1.alloc (.cells #[.string s, .int .i64 0] 27)) w1.heap.size 27 #[.string s, .int .i64 0] := Has.new w1 _ _
    exact ⟨0, 0, Nat.zero_le _, rfl, Nat.zero_le _, HR1.out.alloc _, hn, (Below.trans HB1.out ((Below.refl _ w1).alloc (by have := HB1.out.size; omega) _)), by simp⟩
  case round =>
    rename_i wr
    obtain ⟨j, k, hj, rfl, hk, hR, hX, hbel, hz2⟩ := hrel
    have HR := hid hR
    have HX := hid hX
    have HBE := hid hbel
    clear hR hX hbel
    have hg : w.heap.size < w1.heap.size := hz1
    by_cases hlt : j < len ∧ j < 100
    · obtain ⟨hl1, hl2⟩ := hlt
      obtain ⟨b, off, rfl, hb, c0, c1, c2, c3, hv⟩ := HOPS.out.below HBE.out j (by rw [hll.out]; exact hl1)
      have HNB : Hid (b ≠ w.heap.size) := by
        obtain ⟨b', off', he, hb', _⟩ := HOPS.out j (by rw [hll.out]; exact hl1)
        have e1 : b = b' := by injection he with he; injection he
        unfold Hid; omega
      have hjl : j < l.length := by rw [hll.out]; exact hl1
      obtain ⟨d, v, n, t, hx⟩ : ∃ d v n t, l[j] = ⟨d, v, n, t⟩ := ⟨_, _, _, _, rfl⟩
      rw [hx] at c0 c1 c2 c3 hv
      have HXX := hid hx
      clear hx c1 c3 hv
      by_cases hd1 : d = 1
      · subst hd1
        go_wp2_with fail
        refine (ralign_any _ s hs k hk _ HR.out).mono ?_
        rintro e w2 ⟨rfl, hR2, hK2⟩
        have HX2 := hid (show Rx w2 w1.heap.size s k from hK2.has HX.out (by omega))
        have HR2 := hid hR2
        have HK2 := hid hK2
        clear hR2 hK2
        go_wp2_with fail
        refine (refralign_any _ s hs k hk _ HX2.out).mono ?_
        rintro e w3 ⟨rfl, hX3, hK3⟩
        have HR3 := hid (show Rd w3 w.heap.size s _ from hK3.has HR2.out (by omega))
        have HX3 := hid hX3
        have HK3 := hid hK3
        clear hX3 hK3
        have x1 : w3.cell? ⟨w1.heap.size, 1, none⟩ = some (.int .i64 (upK k : Nat)) := HX3.out.cell 1
        have hle : upK k ≤ 8 * s.size := upK_le k _ hk
        generalize upK k = kk at *
        have HAT := hid (fun (z : Nat) => quiet_flip (at_any w.heap.size s _ (w3.drewN z) (HR3.out.drewN z)))
        go_wp2_with fail
        go_quiet ((go_at_call 21; exact Calls.quiet_of_same (HAT.out _)))
        go_wp2
        go_roundw
        case rel =>
          have hs2 := HK2.out.size
          have hs3 := HK3.out.size
          refine ⟨j + 1, _, by omega, by go_num, hle, HR3.out.drewN _, HX3.out.drewN _, ?_, by simp; omega⟩
          exact below_drewN ((HBE.out.trans (HK2.out.below (B := w.heap.size) (by have := HBE.out.size; omega) (fun i h => by omega))).trans (HK3.out.below (B := w.heap.size) (by have := HBE.out.size; omega) (fun i h => by omega))) _
        case measure => simp [intOf]; omega
      · have t1 : (d == 1) = false := by simpa using hd1
        by_cases hd2 : d = 2
        · subst hd2
          go_wp2_with fail
          refine (rbytes_any _ s hs k hk n _ HR.out).mono ?_
          rintro e w2 ⟨rfl, hR2, hK2⟩
          have HX2 := hid (show Rx w2 w1.heap.size s k from hK2.has HX.out (by omega))
          have HR2 := hid hR2
          have HK2 := hid hK2
          clear hR2 hK2
          have c2b : w2.cell? ⟨b, off + j * 4 + 2, none⟩ = some (.int .i64 n) := (World.cell?_of_block (HK2.out.block b (by omega) (by intro e; exact HNB.out e))).trans c2
          go_wp2_with fail
          refine (refbytes_any _ s hs k hk n _ HX2.out).mono ?_
          rintro e w3 ⟨rfl, hX3, hK3⟩
          have HR3 := hid (show Rd w3 w.heap.size s _ from hK3.has HR2.out (by omega))
          have HX3 := hid hX3
          have HK3 := hid hK3
          clear hX3 hK3
          have x1 : w3.cell? ⟨w1.heap.size, 1, none⟩ = some (.int .i64 (rbytesK s k n : Nat)) := HX3.out.cell 1
          have hle : rbytesK s k n ≤ 8 * s.size := rbytesK_le s k n hk
          generalize rbytesV s k n = vv at *
          generalize rbytesE s k n = ee at *
          generalize rbytesK s k n = kk at *
          have HAT := hid (fun (z : Nat) => quiet_flip (at_any w.heap.size s _ (w3.drewN z) (HR3.out.drewN z)))
          go_wp2_with fail
          go_quiet ((go_at_call 21; exact Calls.quiet_of_same (HAT.out _)))
          go_wp2
          go_roundw
          case rel =>
            have hs2 := HK2.out.size
            have hs3 := HK3.out.size
            refine ⟨j + 1, _, by omega, by go_num, hle, HR3.out.drewN _, HX3.out.drewN _, ?_, by simp; omega⟩
            exact below_drewN ((HBE.out.trans (HK2.out.below (B := w.heap.size) (by have := HBE.out.size; omega) (fun i h => by omega))).trans (HK3.out.below (B := w.heap.size) (by have := HBE.out.size; omega) (fun i h => by omega))) _
          case measure => simp [intOf]; omega
        · have t2 : (d == 2) = false := by simpa using hd2
          go_wp2_with fail
          refine (bits_any _ s hs k hk n _ HR.out).mono ?_
          rintro e w2 ⟨rfl, hR2, hK2⟩
          have HX2 := hid (show Rx w2 w1.heap.size s k from hK2.has HX.out (by omega))
          have HR2 := hid hR2
          have HK2 := hid hK2
          clear hR2 hK2
          have c2b : w2.cell? ⟨b, off + j * 4 + 2, none⟩ = some (.int .i64 n) := (World.cell?_of_block (HK2.out.block b (by omega) (by intro e; exact HNB.out e))).trans c2
          go_wp2_with fail
          refine (refbits_any _ s hs k hk n _ HX2.out).mono ?_
          rintro e w3 ⟨rfl, hX3, hK3⟩
          have HR3 := hid (show Rd w3 w.heap.size s _ from hK3.has HR2.out (by omega))
          have HX3 := hid hX3
          have HK3 := hid hK3
          clear hX3 hK3
          have x1 : w3.cell? ⟨w1.heap.size, 1, none⟩ = some (.int .i64 (bitsK s k n : Nat)) := HX3.out.cell 1
          have hle : bitsK s k n ≤ 8 * s.size := bitsK_le s k n hk
          generalize bitsV s k n = vv at *
          generalize bitsE s k n = ee at *
          generalize bitsK s k n = kk at *
          have HAT := hid (fun (z : Nat) => quiet_flip (at_any w.heap.size s _ (w3.drewN z) (HR3.out.drewN z)))
          go_wp2_with fail
          go_quiet ((go_at_call 21; exact Calls.quiet_of_same (HAT.out _)))
          go_wp2
          go_roundw
          case rel =>
            have hs2 := HK2.out.size
            have hs3 := HK3.out.size
            refine ⟨j + 1, _, by omega, by go_num, hle, HR3.out.drewN _, HX3.out.drewN _, ?_, by simp; omega⟩
            exact below_drewN ((HBE.out.trans (HK2.out.below (B := w.heap.size) (by have := HBE.out.size; omega) (fun i h => by omega))).trans (HK3.out.below (B := w.heap.size) (by have := HBE.out.size; omega) (fun i h => by omega))) _
          case measure => simp [intOf]; omega
    · have hend : Bw w wr := HBE.out
      by_cases hl1 : j < len
      · have hl2 : ¬ j < 100 := by omega
        clear hlt
        go_wp2_with fail
        refine (live_any _).mono ?_
        rintro e w9 ⟨rfl, h9⟩
        go_wp2
        go_returns
        exact ⟨rfl, hend.trans h9⟩
      · clear hlt
        go_wp2_with fail
        refine (live_any _).mono ?_
        rintro e w9 ⟨rfl, h9⟩
        go_wp2
        go_returns
        exact ⟨rfl, hend.trans h9⟩

/-! The frame: from the walk to the statement. -/
theorem own : ownKnob Try.prog.godebug = none := by kernel_rfl
theorem laidOut : laidOutB Try.prog = true := by kernel_rfl
set_option maxRecDepth 100000 in
theorem lifted (os : Os) (started : os.Started) (H : Type) (enc : TypeId × Value → H) :
    ReturnsInHanded {} Try.checked os 3 .any (Rows.bitsReadsSpec.pre6 enc Try.prog Try.f3 Rows.bitsReadsRow.domain false) (Rows.bitsReadsSpec.post enc Try.prog Try.f3 false true false false) := by
  refine returnsInHanded_of_change_sized (C := Try.checked) own started (by kernel_rfl) Try.func3
    (ChangeSpec.witness6 (enc := enc) (C := Try.checked) false ⟨#[], #[.string ⟨#[]⟩, .slice none 0 0], []⟩ 8 (by kernel_rfl) (by kernel_rfl) (by kernel_rfl) (by kernel_rfl)) ?_
  intro W base args ds gs before hval0 hW hcnd hsz0 _
  have hval : ∀ (j : Nat) t v, Try.f3.params[j]? = some t → args[j]? = some v → Value.okWide Try.prog W .any base t v := hval0
  have hW' := hW
  obtain ⟨p, q, hA0, hV, rfl, hfz, hnd⟩ := hW
  have hA : DataW.TrodAll enc Try.prog W 0 (fun _ => true) true Try.f3.params.toList args.toList ds p := hA0
  have hsz : (DataW.weightsEach Try.prog (Try.f3.params.toList ++ Rows.bitsReadsSpec.plain.varTypes Try.prog) (ds ++ gs)).all (· ≤ reachBytes) = true := hsz0
  rw [Try.params3] at hA hval hsz
  obtain ⟨v0, vs0, d0, ds0, p0, q0, hargs, rfl, rfl, h0, r0⟩ := trodAll_cons hA
  obtain ⟨v1, vs1, d1, ds1, p1, q1, rfl, rfl, rfl, h1, r1⟩ := trodAll_cons r0
  obtain ⟨rfl, rfl, rfl⟩ := trodAll_nil r1
  obtain rfl : args = #[v0, v1] := by cases args; simp_all
  obtain ⟨rfl, rfl⟩ := trodVars_none hV
  obtain ⟨a0, rfl, rfl, rfl, w0⟩ := open_string Try.underlying9 (hval 0 9 v0 rfl rfl) h0
  have z0 := sized_string hsz (j := 0) (t := 9) (bytes := a0.data.toList) rfl rfl
  have k1 := h1
  have lt1 : ∀ x ∈ p1, x.block < W.heap.size := by obtain ⟨m, hm⟩ := k1; exact DataW.trod_lt m _ _ _ hm
  obtain ⟨oa1, ol1, oc1, rfl⟩ := okWide_slice Try.underlying22 (hval 1 22 v1 rfl rfl)
  obtain ⟨m1, t1⟩ := h1
  obtain ⟨A1, len1, cap1, l1, he1, hl1, hll1, hst1⟩ := open_ops t1
  rw [he1] at hW' k1 ⊢
  clear hA0 hval0
  try simp only [List.append_nil] at hW'
  refine (walk a0 (by have := str_le z0; omega) A1 len1 cap1 hl1 l1 hll1 W hst1).mono fun e W' ⟨he, bel⟩ => ?_
  subst he
  exact ⟨_, rfl, _, _, _, [], _, [], hW', trodAll_mk1 (shut_bool Try.underlying4 _), (trodAll_cons_mk (shut_string Try.underlying9 w0) (trodAll_cons_mk (Below.trod laidOut (by kernel_rfl) (of_decide_eq_true (by kernel_rfl)) k1 bel lt1) trodAll_mk0)), rfl, Below.frame bel _, fun h => by cases h⟩

theorem proved : Rows.BitsReadsSaid :=
  OpenClaim.holds_of_wide 3 Try.f3 rfl rfl rfl rfl rfl rfl rfl ⟨rfl, rfl, rfl, rfl, rfl⟩ rfl rfl rfl rfl rfl (by kernel_rfl) Try.func3 (by kernel_rfl)
    (of_decide_eq_true (by kernel_rfl)) (by unfold Func.isWrapper; first | (rw [if_pos (by decide +kernel)]; kernel_rfl) | (rw [if_neg (by decide +kernel)]; exact ⟨rfl, rfl⟩))
    (fun os started H enc _ => lifted os started H enc)
end Go.Proofs.Ytfmilakgpocnnaa.bitsReads

/- SfntSums returns true for every kind and every list of tables, and changes nothing that was there; no condition. -/
import Derived.Test.YtciaebhkemdilabSfS
import Derived.Test.YtciaebhkemdilabSfX
import Derived.Test.YtciaebhkemdilabRows
import Derived.ProofKit
import Derived.ChangeMaps
import Derived.OpenShut
import Derived.ShutString
import Derived.ChangeOld
namespace Go.Proofs.Ytciaebhkemdilab.sfntSums
open Go.ChangeMaps (open_string shut_string)
open Go.RowKit Go.ChangeShapes Go.WideShapes Go.ChangeAt
set_option linter.unusedVariables false
set_option maxRecDepth 100000 in
set_option maxHeartbeats 8000000 in
theorem walk (k : Nat) (hk : k < 4294967296) (A : Option Addr) (len cap : Nat) (hlen : len ≤ 9223372036854775807) (l : List ChkR) (hll : l.length = len) (w : World) (hst : ChkAt w A l) :
    Calls Try.prog 4 #[.int .u32 k, .slice A len cap] w fun e w' => e = .returned (.bool true) ∧ Bw w w' := by
  have HST := hid hst
  have HSM := hid (fun W (h : ChkAt W A l) => small_any A len cap hlen l (hid hll) W h)
  have HWR := hid (fun W (h : ChkAt W A l) => swrite_any k hk A len cap hlen l (hid hll) W h)
  clear hst
  go_enter Try.func4, Try.ntmps4
  go_wp2_with fail
  refine (HSM.out _ HST.out).mono ?_
  rintro e w2 ⟨sb, rfl, hb2, hS⟩
  have HB2 := hid hb2
  have HT2 := hid (HST.out.below hb2)
  clear hb2 HSM
  cases sb with
  | false =>
    clear hS HWR
    go_wp2_with fail
    refine (live_any _).mono ?_
    rintro e wl ⟨rfl, hbl⟩
    have HBL := hid ((HB2.out).trans hbl)
    clear hbl
    go_wp2
    go_returns
    exact ⟨rfl, HBL.out⟩
  | true =>
    have HS := hid (hS rfl)
    clear hS
    cases hok : writeOk l k with
    | false =>
      have hwp := writeP_no hok
      rw [hwp] at HWR
      clear hwp hok
      go_wp2_with fail
      refine (HWR.out _ HT2.out).mono ?_
      rintro e w3 ⟨rfl, hb3⟩
      have HB3 := hid (HB2.out.trans hb3)
      clear hb3
      go_wp2_with fail
      refine (live_any _).mono ?_
      rintro e wl ⟨rfl, hbl⟩
      have HBL := hid ((HB3.out).trans hbl)
      clear hbl
      go_wp2
      go_returns
      exact ⟨rfl, HBL.out⟩
    | true =>
      have hwp := writeP_yes hok
      rw [hwp] at HWR
      obtain ⟨hkd, hm⟩ := write_kind hok
      have hz := HS.out.size hm k
      have hn9 : len ≤ 1000 := by rw [← hll]; exact hm.few
      have hwz := writeT_size hm k
      have hww := words_write hm k
      rw [hll] at hwz hww
      obtain ⟨s, hs⟩ : ∃ s, writeT l k = s := ⟨_, rfl⟩
      rw [hs] at HWR hz hwz hww
      have HWS := hid (fun W => (show Calls Try.prog 11 #[.string s] W fun e w' => e = .returned (.int .u32 (wrdT s : Nat)) ∧ W = w' from words_any s (by unfold lim; omega) W))
      have hx9 : (s.extract 0 (eAt len)).size ≤ 6000000 := by simp; omega
      obtain ⟨x, hx⟩ : ∃ x, s.extract 0 (eAt len) = x := ⟨_, rfl⟩
      rw [hx] at hww hx9
      have HWX := hid (fun W => (show Calls Try.prog 11 #[.string x] W fun e w' => e = .returned (.int .u32 (wrdT x : Nat)) ∧ W = w' from words_any x (by unfold lim; omega) W))
      rw [hww] at HWS
      clear hwp hok hs
      obtain ⟨n, hn⟩ : ∃ n, eAt len = n := ⟨_, rfl⟩
      rw [hn] at hwz hx
      have hx2 : s.extract 0 (n : Int).toNat = x := by rw [Int.toNat_natCast]; exact hx
      have v1 : IntKind.i64.wrap (16 * (len : Int)) = 16 * (len : Int) := IntWalk.i64_in _ (by omega)
      have v2 : IntKind.i64.wrap (12 + 16 * (len : Int)) = (n : Int) := by rw [← hn]; unfold eAt; rw [IntWalk.i64_in _ (by omega)]; omega
      have v3 : ¬ ((s.size : Int) < (n : Int)) := by omega
      have hns : n ≤ s.size := by omega
      go_wp2_with fail
      refine (HWR.out _ HT2.out).mono ?_
      rintro e w3 ⟨rfl, hb3⟩
      have HB3 := hid (HB2.out.trans hb3)
      have HT3 := hid (HT2.out.below hb3)
      clear hb3
      go_wp2_with fail
      refine (HWX.out _).mono ?_
      rintro e w4 ⟨rfl, rfl⟩
      go_wp2
      go_loopw [8, 9] (fun vt vi wr => ∃ i : Nat, i ≤ len ∧ vi = .int .i64 i ∧ vt = .int .u32 (sumsN l (wrdT x) i : Nat) ∧ Bw w3 wr) (fun _ vi _ => len - (intOf vi).toNat)
      case atStart => exact ⟨0, Nat.zero_le _, rfl, rfl, Bw.refl _⟩
      case round =>
        rename World => wr
        obtain ⟨i, hi, rfl, rfl, hw⟩ := hrel
        have HW := hid hw
        by_cases hlt : i < len
        · have hk1 : (i : Int) < len := by omega
          have hkl : i < l.length := by rw [hll]; exact hlt
          obtain ⟨b1, o1, rfl, hb1, p0, p1, hok⟩ := HT3.out.below hw i hkl
          clear hw hok
          have htb : tb l i = l[i]'hkl := tb_get hkl
          have hdz : (l[i]'hkl).dat.size ≤ 5000 := HS.out.all i hkl
          rw [← htb] at p0 p1 hdz
          clear htb
          have HSN := hid (show sumsN l (wrdT x) (i + 1) = (sumsN l (wrdT x) i + wrdT (tb l i).dat) % 4294967296 from rfl)
          obtain ⟨y, hy⟩ : ∃ y, tb l i = y := ⟨_, rfl⟩
          rw [hy] at p0 p1 hdz HSN
          clear hy
          have HWY := hid (fun W => (show Calls Try.prog 12 #[.string y.dat] W fun e w' => e = .returned (.int .u32 (wrdT y.dat : Nat)) ∧ W = w' from refwords_any y.dat (by unfold lim; omega) W))
          obtain ⟨wy, hwy⟩ : ∃ z, wrdT y.dat = z := ⟨_, rfl⟩
          obtain ⟨t, ht⟩ : ∃ z, sumsN l (wrdT x) i = z := ⟨_, rfl⟩
          rw [hwy] at HWY HSN
          rw [ht] at HSN
          rw [ht]
          clear hwy ht
          have v5 : IntKind.u32.wrap ((t : Int) + (wy : Int)) = (((t + wy) % 4294967296 : Nat) : Int) := by rw [IntKind.wrap_u32]; omega
          go_wp2_with fail
          refine (HWY.out _).mono ?_
          rintro e w5 ⟨rfl, rfl⟩
          go_wp2
          exact ⟨⟨i + 1, by omega, by go_num, by rw [HSN.out]; go_num, HW.out⟩, by simp [intOf]; omega⟩
        · obtain rfl : i = len := by omega
          have HB4 := hid (HB3.out.trans hw)
          clear hw
          go_wp2_with fail
          refine (HWS.out _).mono ?_
          rintro e w5 ⟨rfl, rfl⟩
          go_wp2_with fail
          refine (live_any _).mono ?_
          rintro e wl ⟨rfl, hbl⟩
          have HBL := hid ((HB4.out).trans hbl)
          clear hbl
          go_wp2
          go_returns
          exact ⟨rfl, HBL.out⟩

/-! The frame: from the walk to the statement. -/
theorem own : ownKnob Try.prog.godebug = none := by kernel_rfl
theorem laidOut : laidOutB Try.prog = true := by kernel_rfl
set_option maxRecDepth 100000 in
theorem lifted (os : Os) (started : os.Started) (H : Type) (enc : TypeId × Value → H) :
    ReturnsInHanded {} Try.checked os 4 .any (Rows.sfntSumsSpec.pre6 enc Try.prog Try.f4 Rows.sfntSumsRow.domain false) (Rows.sfntSumsSpec.post enc Try.prog Try.f4 false true false false) := by
  refine returnsInHanded_of_change_sized (C := Try.checked) own started (by kernel_rfl) Try.func4
    (ChangeSpec.witness6 (enc := enc) (C := Try.checked) false ⟨#[], #[.int .u32 0, .slice none 0 0], []⟩ 8 (by kernel_rfl) (by kernel_rfl) (by kernel_rfl) (by kernel_rfl)) ?_
  intro W base args ds gs before hval0 hW hcnd hsz0 _
  have hval : ∀ (j : Nat) t v, Try.f4.params[j]? = some t → args[j]? = some v → Value.okWide Try.prog W .any base t v := hval0
  have hW' := hW
  obtain ⟨p, q, hA0, hV, rfl, hfz, hnd⟩ := hW
  have hA : DataW.TrodAll enc Try.prog W 0 (fun _ => true) true Try.f4.params.toList args.toList ds p := hA0
  have hsz : (DataW.weightsEach Try.prog (Try.f4.params.toList ++ Rows.sfntSumsSpec.plain.varTypes Try.prog) (ds ++ gs)).all (· ≤ reachBytes) = true := hsz0
  rw [Try.params4] at hA hval hsz
  obtain ⟨v0, vs0, d0, ds0, p0, q0, hargs, rfl, rfl, h0, r0⟩ := trodAll_cons hA
  obtain ⟨v1, vs1, d1, ds1, p1, q1, rfl, rfl, rfl, h1, r1⟩ := trodAll_cons r0
  obtain ⟨rfl, rfl, rfl⟩ := trodAll_nil r1
  obtain rfl : args = #[v0, v1] := by cases args; simp_all
  obtain ⟨rfl, rfl⟩ := trodVars_none hV
  obtain ⟨a0, rfl, rfl, rfl, w0⟩ := open_int Try.underlying22 (hval 0 22 v0 rfl rfl) h0
  have en0 : 0 ≤ a0 ∧ a0 ≤ 4294967295 := by have h := w0; simp [Lit.wf, IntKind.min, IntKind.max, IntKind.signed, IntKind.bits] at h; omega
  obtain ⟨X0, rfl⟩ : ∃ X : Nat, a0 = (X : Int) := ⟨a0.toNat, by omega⟩
  have k1 := h1
  have lt1 : ∀ x ∈ p1, x.block < W.heap.size := by obtain ⟨m, hm⟩ := k1; exact DataW.trod_lt m _ _ _ hm
  obtain ⟨oa1, ol1, oc1, rfl⟩ := okWide_slice Try.underlying23 (hval 1 23 v1 rfl rfl)
  obtain ⟨m1, t1⟩ := h1
  obtain ⟨A1, len1, cap1, l1, he1, hl1, hll1, hst1⟩ := open_chk t1
  rw [he1] at hW' k1 ⊢
  clear hA0 hval0
  try simp only [List.append_nil] at hW'
  refine (walk X0 (by omega) A1 len1 cap1 hl1 l1 hll1 W hst1).mono fun e W' ⟨he, bel⟩ => ?_
  subst he
  exact ⟨_, rfl, _, _, _, [], _, [], hW', trodAll_mk1 (shut_bool Try.underlying4 _), (trodAll_cons_mk (shut_int Try.underlying22 w0) (trodAll_cons_mk (Below.trod laidOut (by kernel_rfl) (of_decide_eq_true (by kernel_rfl)) k1 bel lt1) trodAll_mk0)), rfl, Below.frame bel _, fun h => by cases h⟩

theorem proved : Rows.SfntSumsSaid :=
  OpenClaim.holds_of_wide 4 Try.f4 rfl rfl rfl rfl rfl rfl rfl ⟨rfl, rfl, rfl, rfl, rfl⟩ rfl rfl rfl rfl rfl (by kernel_rfl) Try.func4 (by kernel_rfl)
    (of_decide_eq_true (by kernel_rfl)) (by unfold Func.isWrapper; first | (rw [if_pos (by decide +kernel)]; kernel_rfl) | (rw [if_neg (by decide +kernel)]; exact ⟨rfl, rfl⟩))
    (fun os started H enc _ => lifted os started H enc)

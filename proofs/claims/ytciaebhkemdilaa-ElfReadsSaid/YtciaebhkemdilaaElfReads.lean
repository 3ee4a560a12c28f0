/- ElfReads returns true for every text, and changes nothing that was there; no condition. -/
import Derived.Test.YtciaebhkemdilaaElfTg
import Derived.Test.YtciaebhkemdilaaElfRd
import Derived.Test.YtciaebhkemdilaaRows
import Derived.ProofKit
import Derived.ChangeMaps
import Derived.OpenShut
import Derived.ShutString
import Derived.ChangeOld
namespace Go.Proofs.Ytciaebhkemdilaa.elfReads
open Go.ChangeMaps (open_string shut_string)
open Go.RowKit Go.ChangeShapes Go.WideShapes Go.ChangeAt
set_option linter.unusedVariables false
set_option maxRecDepth 100000 in
set_option maxHeartbeats 8000000 in
theorem dread_in (s : ByteArray) (hs : s.size ≤ 100000) (M : ElfR) (E : Int) (hM : readM s = M) (hE : readE s = E) (n k : Nat) (hn : M.segs.length = n) (hk : M.secs.length = k) (w : World) :
    Calls Try.prog 11 #[.string s] w fun e w' => ∃ a c b d, e = .returned (.tuple #[.agg #[.int .i64 M.typ, .int .i64 M.mac, .int .u64 M.ent, .int .i64 M.flg, .slice a n c, .slice b k d], .int .i64 E]) ∧ Bw w w' ∧ ElfAt w' M a b :=
  (dread_any s hs w).mono fun e w' hq => by
    obtain ⟨hb, a, c, b, d, he, ha⟩ := hq
    rw [hM, hE] at he
    rw [hM] at ha
    subst hn hk
    exact ⟨a, c, b, d, he, hb, ha⟩
set_option maxRecDepth 100000 in
set_option maxHeartbeats 8000000 in
theorem walk (s : ByteArray) (hz : s.size ≤ 140737488351232) (w : World) :
    Calls Try.prog 3 #[.string s] w fun e w' => e = .returned (.bool true) ∧ Bw w w' := by
  by_cases hs : (100000 : Int) < (s.size : Int)
  · go_enter Try.func3, Try.ntmps3
    have HB0 := hid (Bw.refl w)
    go_wp2_with fail
    refine (live_any _).mono ?_
    rintro e wl ⟨rfl, hbl⟩
    have HBL := hid ((HB0.out).trans hbl)
    clear hbl
    go_wp2
    go_returns
    exact ⟨rfl, HBL.out⟩
  have hs5 : s.size ≤ 100000 := by omega
  obtain ⟨M, hM⟩ : ∃ M, readM (s) = M := ⟨_, rfl⟩
  obtain ⟨nM, hnM⟩ : ∃ x, M.segs.length = x := ⟨_, rfl⟩
  obtain ⟨kM, hkM⟩ : ∃ x, M.secs.length = x := ⟨_, rfl⟩
  have HFW := hid (show nM ≤ 1000 ∧ kM ≤ 1000 by rw [← hnM, ← hkM, ← hM]; exact readM_few)
  obtain ⟨E, hE⟩ : ∃ E, readE s = E := ⟨_, rfl⟩
  have HRD := hid (fun W => read_in s (by omega) M E hM hE nM kM hnM hkM W)
  have HDR := hid (fun W => dread_in s hs5 M E hM hE nM kM hnM hkM W)
  have HSA := hid (fun W a1 b1 a2 b2 c1 d1 c2 d2 (h1 : ElfAt W M a1 b1) (h2 : ElfAt W M a2 b2) => sameM_eq M a1 b1 a2 b2 nM kM c1 d1 c2 d2 hnM hkM (by have := HFW.out; omega) (by have := HFW.out; omega) W h1 h2)
  clear hM hnM hkM hE
  go_enter Try.func3, Try.ntmps3
  go_wp2_with fail
  refine (HRD.out _).mono ?_
  rintro e w4 ⟨a1, c1, b1, d1, rfl, hb4, ha4⟩
  have HB4 := hid (hb4.alloc (.cells #[.int .i64 M.typ, .int .i64 M.mac, .int .u64 M.ent, .int .i64 M.flg, .slice a1 nM c1, .slice b1 kM d1] 27))
  have HN4 := hid (Has.new w4 27 #[.int .i64 M.typ, .int .i64 M.mac, .int .u64 M.ent, .int .i64 M.flg, .slice a1 nM c1, .slice b1 kM d1])
  have HA4 := hid (ha4.bw ((Bw.refl w4).alloc (.cells #[.int .i64 M.typ, .int .i64 M.mac, .int .u64 M.ent, .int .i64 M.flg, .slice a1 nM c1, .slice b1 kM d1] 27)))
  obtain ⟨nb, hnb⟩ : ∃ nb, w4.heap.size = nb := ⟨_, rfl⟩
  rw [hnb] at HN4
  clear hb4 ha4 HRD
  go_upto_region 4 with fail
  generalize w4.alloc (.cells #[.int .i64 M.typ, .int .i64 M.mac, .int .u64 M.ent, .int .i64 M.flg, .slice a1 nM c1, .slice b1 kM d1] 27) = w5 at *
  clear hnb
  go_wp2_with fail
  refine (HDR.out _).mono ?_
  rintro e w6 ⟨a2, c2, b2, d2, rfl, hb6, ha6⟩
  have HB6 := hid ((HB4.out.trans hb6).alloc (.cells #[.int .i64 M.typ, .int .i64 M.mac, .int .u64 M.ent, .int .i64 M.flg, .slice a2 nM c2, .slice b2 kM d2] 27))
  have HN6 := hid ((hb6.has HN4.out).alloc (.cells #[.int .i64 M.typ, .int .i64 M.mac, .int .u64 M.ent, .int .i64 M.flg, .slice a2 nM c2, .slice b2 kM d2] 27))
  have HO6 := hid (Has.new w6 27 #[.int .i64 M.typ, .int .i64 M.mac, .int .u64 M.ent, .int .i64 M.flg, .slice a2 nM c2, .slice b2 kM d2])
  have HA6 := hid ((HA4.out.bw hb6).bw ((Bw.refl w6).alloc (.cells #[.int .i64 M.typ, .int .i64 M.mac, .int .u64 M.ent, .int .i64 M.flg, .slice a2 nM c2, .slice b2 kM d2] 27)))
  have HC6 := hid (ha6.bw ((Bw.refl w6).alloc (.cells #[.int .i64 M.typ, .int .i64 M.mac, .int .u64 M.ent, .int .i64 M.flg, .slice a2 nM c2, .slice b2 kM d2] 27)))
  obtain ⟨ob, hob⟩ : ∃ ob, w6.heap.size = ob := ⟨_, rfl⟩
  rw [hob] at HO6
  clear hb6 ha6 HB4 HN4 HA4 HDR
  go_upto_region 5 with fail
  generalize w6.alloc (.cells #[.int .i64 M.typ, .int .i64 M.mac, .int .u64 M.ent, .int .i64 M.flg, .slice a2 nM c2, .slice b2 kM d2] 27) = w7 at *
  clear hob
  obtain ⟨x0, x1, x2, x3, x4, x5⟩ := seven HN6.out
  obtain ⟨y0, y1, y2, y3, y4, y5⟩ := seven HO6.out
  go_wp2_with fail
  refine (HSA.out _ a1 b1 a2 b2 c1 d1 c2 d2 HA6.out HC6.out).mono ?_
  rintro e w8 ⟨rfl, hb8⟩
  have HB8 := hid (HB6.out.trans hb8)
  clear x0 x1 x2 x3 x4 x5 y0 y1 y2 y3 y4 y5 hb8 HB6 HN6 HO6 HA6 HC6
  go_wp2_with fail
  refine (live_any _).mono ?_
  rintro e wl ⟨rfl, hbl⟩
  have HBL := hid ((HB8.out).trans hbl)
  clear hbl
  go_wp2
  go_returns
  exact ⟨rfl, HBL.out⟩

/-! The frame: from the walk to the statement. -/
theorem own : ownKnob Try.prog.godebug = none := by kernel_rfl
theorem laidOut : laidOutB Try.prog = true := by kernel_rfl
set_option maxRecDepth 100000 in
theorem lifted (os : Os) (started : os.Started) (H : Type) (enc : TypeId × Value → H) :
    ReturnsInHanded {} Try.checked os 3 .any (Rows.elfReadsSpec.pre6 enc Try.prog Try.f3 Rows.elfReadsRow.domain false) (Rows.elfReadsSpec.post enc Try.prog Try.f3 false true false false) := by
  refine returnsInHanded_of_change_sized (C := Try.checked) own started (by kernel_rfl) Try.func3
    (ChangeSpec.witness6 (enc := enc) (C := Try.checked) false ⟨#[], #[.string ⟨#[]⟩], []⟩ 8 (by kernel_rfl) (by kernel_rfl) (by kernel_rfl) (by kernel_rfl)) ?_
  intro W base args ds gs before hval0 hW hcnd hsz0 _
  have hval : ∀ (j : Nat) t v, Try.f3.params[j]? = some t → args[j]? = some v → Value.okWide Try.prog W .any base t v := hval0
  have hW' := hW
  obtain ⟨p, q, hA0, hV, rfl, hfz, hnd⟩ := hW
  have hA : DataW.TrodAll enc Try.prog W 0 (fun _ => true) true Try.f3.params.toList args.toList ds p := hA0
  have hsz : (DataW.weightsEach Try.prog (Try.f3.params.toList ++ Rows.elfReadsSpec.plain.varTypes Try.prog) (ds ++ gs)).all (· ≤ reachBytes) = true := hsz0
  rw [Try.params3] at hA hval hsz
  obtain ⟨v0, vs0, d0, ds0, p0, q0, hargs, rfl, rfl, h0, r0⟩ := trodAll_cons hA
  obtain ⟨rfl, rfl, rfl⟩ := trodAll_nil r0
  obtain rfl : args = #[v0] := by cases args; simp_all
  obtain ⟨rfl, rfl⟩ := trodVars_none hV
  obtain ⟨a0, rfl, rfl, rfl, w0⟩ := open_string Try.underlying9 (hval 0 9 v0 rfl rfl) h0
  have z0 := sized_string hsz (j := 0) (t := 9) (bytes := a0.data.toList) rfl rfl
  clear hA0 hval0
  try simp only [List.append_nil] at hW'
  refine (walk a0 (by have h4 : a0.size = a0.data.toList.length := (by simp); have h5 : reachBytes = 140737488351232 := (by decide); omega) W).mono fun e W' ⟨he, bel⟩ => ?_
  subst he
  exact ⟨_, rfl, _, _, _, [], _, [], hW', trodAll_mk1 (shut_bool Try.underlying4 _), (trodAll_cons_mk (shut_string Try.underlying9 w0) trodAll_mk0), rfl, Below.frame bel _, fun h => by cases h⟩

theorem proved : Rows.ElfReadsSaid :=
  OpenClaim.holds_of_wide 3 Try.f3 rfl rfl rfl rfl rfl rfl rfl ⟨rfl, rfl, rfl, rfl, rfl⟩ rfl rfl rfl rfl rfl (by kernel_rfl) Try.func3 (by kernel_rfl)
    (of_decide_eq_true (by kernel_rfl)) (by unfold Func.isWrapper; first | (rw [if_pos (by decide +kernel)]; kernel_rfl) | (rw [if_neg (by decide +kernel)]; exact ⟨rfl, rfl⟩))
    (fun os started H enc _ => lifted os started H enc)
end Go.Proofs.Ytciaebhkemdilaa.elfReads

/- ZlibTurned returns true for every text and every number of 32 bits, and changes nothing that was there; no condition but that the listed tables hold what the program's text lays. -/
import Derived.Test.YtkmbgkcpohchhaaGreatDoorDefTc
import Derived.Test.YtkmbgkcpohchhaaGreatDoorZlbE
import Derived.Test.YtkmbgkcpohchhaaGreatDoorZlbD
import Derived.ShutString
import Derived.ChangeOld
import Derived.SizedLaws
import Derived.Laws.IdiomStrings
import Derived.Deep.QuietTactic
import Derived.BigQuiet
namespace Go.Proofs.YtkmbgkcpohchhaaGreatDoor.zlibTurned
open Go.ChangeShapes Go.WideShapes Go.ChangeAt Go.WideMaps Go.WideElems Go.RowKit
open Go.ChangeMaps (open_string shut_string)
set_option linter.unusedVariables false
/-- n bytes at the head of block g. -/
def ByB (w : World) (g n : Nat) (f : Nat → Nat) : Prop := ∀ j, j < n → w.cell? ⟨g, j, none⟩ = some (.int .u8 (f j : Nat)) ∧ w.frozen? ⟨g, j, none⟩ = false
theorem ByB.put {w : World} {g n : Nat} {f h : Nat → Nat} (k : Nat) (hb : ByB w g n f) (hk : k < n) (hf : ∀ j, j ≠ k → h j = f j) : ByB (w.setCell ⟨g, k, none⟩ (.int .u8 (h k : Nat))) g n h := fun j hj => by
  refine ⟨?_, by rw [World.frozen?_setCell]; exact (hb j hj).2⟩
  by_cases e : j = k
  · subst e; exact World.cell?_setCell_same _ _ _ (hb j hj).1
  · rw [World.cell?_setCell_other (h := by intro h; exact e (Addr.mk.inj h).2.1.symm), hf j e]; exact (hb j hj).1
theorem ByB.bw {w w' : World} {g n : Nat} {f : Nat → Nat} (h : ByB w g n f) (hb : Bw w w') (hg : g < w.heap.size) : ByB w' g n f := fun j hj => by
  have e := hb.block g hg
  exact ⟨(World.cell?_of_block e).trans (h j hj).1, (Below.frozen (p := ⟨g, j, none⟩) hb hg).trans (h j hj).2⟩
/-- Byte j, when the last four from K on are turned as far as k of them. -/
def tz (zs ps : ByteArray) (K k j : Nat) : Nat := if K ≤ j ∧ j < K + k then byt zs j ^^^ byt ps (j - K) else byt zs j
theorem tz_lt (zs ps : ByteArray) (K k j : Nat) : tz zs ps K k j < 256 := by
  unfold tz
  split
  · exact Nat.xor_lt_two_pow (n := 8) (byt_lt _ _) (byt_lt _ _)
  · exact byt_lt _ _
theorem tz_zero (zs ps : ByteArray) (K j : Nat) : tz zs ps K 0 j = byt zs j := by
  unfold tz
  rw [if_neg (by omega)]
theorem tz_far (zs ps : ByteArray) (K k j : Nat) (h : j ≠ K + k) : tz zs ps K (k + 1) j = tz zs ps K k j := by
  unfold tz
  by_cases c : K ≤ j ∧ j < K + k
  · rw [if_pos c, if_pos (by omega)]
  · rw [if_neg c, if_neg (by omega)]
theorem tz_next (zs ps : ByteArray) (K k : Nat) : tz zs ps K (k + 1) (K + k) = tz zs ps K k (K + k) ^^^ byt ps k := by
  unfold tz
  rw [if_pos (by omega), if_neg (by omega), Nat.add_sub_cancel_left]
def tzS (zs ps : ByteArray) (K k : Nat) : ByteArray := ⟨((List.range zs.size).map fun j => UInt8.ofNat (tz zs ps K k j)).toArray⟩
theorem byt_append (a b : ByteArray) (j : Nat) : byt (a ++ b) j = if j < a.size then byt a j else byt b (j - a.size) := by
  unfold byt
  rw [append_list]
  by_cases h : j < a.size
  · rw [if_pos h, List.getD_eq_getElem?_getD, List.getD_eq_getElem?_getD, List.getElem?_append_left (by rw [size_list]; exact h)]
  · rw [if_neg h, List.getD_eq_getElem?_getD, List.getD_eq_getElem?_getD, List.getElem?_append_right (by rw [size_list]; omega), size_list]
theorem byt_sum (n : Nat) (hn : n < 4294967296) : ∀ i, i < 4 → byt (sumS n) i = n / 2 ^ (8 * (3 - i)) % 256
  | 0, _ => by show (UInt8.ofNat (n / 16777216)).toNat = _; simp
  | 1, _ => by show (UInt8.ofNat (n / 65536)).toNat = _; simp
  | 2, _ => by show (UInt8.ofNat (n / 256)).toNat = _; simp
  | 3, _ => by show (UInt8.ofNat n).toNat = _; simp
  | i + 4, h => by omega
theorem byt_xor (n p i : Nat) (hn : n < 4294967296) (hp : p < 4294967296) (hi : i < 4) : byt (sumS n) i ^^^ byt (sumS p) i = byt (sumS (n ^^^ p)) i := by
  rw [byt_sum n hn i hi, byt_sum p hp i hi, byt_sum _ (Nat.xor_lt_two_pow (n := 32) hn hp) i hi, Nat.xor_div_two_pow]
  exact (Nat.xor_mod_two_pow (n := 8)).symm
theorem tz_all (a : ByteArray) (n p : Nat) (hn : n < 4294967296) (hp : p < 4294967296) : tzS (a ++ sumS n) (sumS p) a.size 4 = a ++ sumS (n ^^^ p) := by
  have hz : (a ++ sumS n).size = a.size + 4 := by rw [ByteArray.size_append]; rfl
  apply ba_ext
  apply List.ext_getElem
  · rw [append_list, List.length_append, size_list a]
    have h4 : (sumS (n ^^^ p)).data.toList.length = 4 := rfl
    rw [h4]
    show ((List.range (a ++ sumS n).size).map _).toArray.toList.length = _
    rw [List.length_map, List.length_range, hz]
  · intro j h1 h2
    have hj : j < a.size + 4 := by
      unfold tzS at h1
      simp only [List.length_map, List.length_range, hz] at h1
      exact h1
    have e : (tzS (a ++ sumS n) (sumS p) a.size 4).data.toList[j]'h1 = UInt8.ofNat (tz (a ++ sumS n) (sumS p) a.size 4 j) := by simp [tzS]
    have e2 : byt (a ++ sumS (n ^^^ p)) j = ((a ++ sumS (n ^^^ p)).data.toList[j]'h2).toNat := by
      unfold byt
      rw [List.getD_eq_getElem?_getD, List.getElem?_eq_getElem h2]
      rfl
    have key : tz (a ++ sumS n) (sumS p) a.size 4 j = byt (a ++ sumS (n ^^^ p)) j := by
      unfold tz
      rw [byt_append, byt_append]
      by_cases c : j < a.size
      · rw [if_neg (by omega), if_pos c, if_pos c]
      · rw [if_pos (by omega), if_neg c, if_neg c, byt_xor n p (j - a.size) hn hp (by omega)]
    rw [e, key, e2]
    simp
theorem xor_same {n p : Nat} : n ^^^ p = n ↔ p = 0 := by
  constructor
  · intro h
    have := congrArg (n ^^^ ·) h
    simp only [← Nat.xor_assoc, Nat.xor_self, Nat.zero_xor] at this
    exact this
  · intro h
    rw [h, Nat.xor_zero]
theorem conv_tz {P : Program} (w : World) (src dst e : TypeId) (hs : P.underlying src = some (.slice e)) (he : P.underlying e = some (.int .u8)) (hd : P.underlying dst = some .string)
    {g c K k : Nat} {zs ps : ByteArray} (h : ByB w g zs.size (tz zs ps K k)) :
    (convert src dst (.slice (some ⟨g, 0, none⟩) zs.size c)).run P w = .ok (.string (tzS zs ps K k)) w := by
  have hl : ((List.range zs.size).map fun j => UInt8.ofNat (tz zs ps K k j)).length = zs.size := by simp
  have := run_convert_bytes_back (P := P) w src dst e ⟨g, 0, none⟩ c ((List.range zs.size).map fun j => UInt8.ofNat (tz zs ps K k j)) hs he hd (fun j hj => by
    have hj' : j < zs.size := by rw [hl] at hj; exact hj
    have e0 : (Addr.add ⟨g, 0, none⟩ j) = ⟨g, j, none⟩ := by unfold Addr.add; split <;> simp_all
    rw [e0, (h j hj').1]
    have hb := tz_lt zs ps K k j
    simp
    omega)
  rw [hl] at this
  exact this
theorem byB_start (s : ByteArray) (cap : Nat) (hc : s.size ≤ cap) (w : World) {f : Nat → Nat} (hf : ∀ j, j < s.size → f j = byt s j) {t : TypeId} : ByB (w.alloc (Obj.cells (bytesRow s cap) t ((bytesRow s cap).size, (bytesRow s cap).size + 1))).drew w.heap.size s.size f := fun j hj => by
  have hz : (bytesRow s cap).size = cap := by unfold bytesRow; simp; omega
  have hd : j < s.data.size := hj
  refine ⟨?_, ?_⟩
  · show (w.alloc _).cell? _ = _
    rw [World.cell?_alloc_mark, bytesRow_at s cap j hd, hf j hj, byt_at s j hj]; rfl
  · show (w.alloc _).frozen? _ = _
    rw [World.frozen?_alloc_mark, hz]; simp; omega
set_option maxRecDepth 100000 in
set_option maxHeartbeats 8000000 in
theorem big (s : ByteArray) (pat : Nat) (h : ¬ s.size ≤ 20000) (w : World) (ht : Both w) :
    Calls Tryz.prog 8 #[.string s, .int .u32 (pat : Nat)] w fun e w' => e = .returned (.bool true) ∧ Bw w w' := by
  have t0 : decide (20000 < s.size) = true := decide_eq_true (by omega)
  have t1 : decide ((20000 : Int) < s.size) = true := decide_eq_true (by omega)
  have HT := hid ht
  clear ht
  clear h
  go_enter Tryz.func8, Tryz.ntmps8
  go_wp2_with fail
  refine (zlive_any w HT.out.tab).mono ?_
  rintro e wl ⟨rfl, hbl⟩
  have HBL := hid hbl
  clear hbl
  go_wp2
  go_returns
  exact ⟨rfl, HBL.out⟩
set_option maxRecDepth 100000 in
set_option maxHeartbeats 8000000 in
theorem small (s : ByteArray) (pat : Nat) (hpat : pat < 4294967296) (h : s.size ≤ 20000) (w : World) (ht : Both w) :
    Calls Tryz.prog 8 #[.string s, .int .u32 (pat : Nat)] w fun e w' => e = .returned (.bool true) ∧ Bw w w' := by
  have t0 : decide (20000 < s.size) = false := decide_eq_false (by omega)
  have t1 : decide ((20000 : Int) < s.size) = false := decide_eq_false (by omega)
  have HT := hid ht
  have HZ := hid (zip_any s (by omega) w ht.ord)
  have hn := adl_lt s
  obtain ⟨az, haz⟩ : ∃ az, zipH ++ defS s (findL s) = az := ⟨_, rfl⟩
  have hK : az.size ≤ 1000000 := by
    have := def_size s (findL s)
    rw [← haz, ByteArray.size_append]
    show 2 + _ ≤ _
    omega
  have hzz : (zipS s).size = az.size + 4 := by
    rw [← haz]
    unfold zipS
    rw [ByteArray.size_append]
    rfl
  have HTZ := hid (show tzS (zipS s) (sumS pat) az.size 4 = az ++ sumS (adlN 1 s ^^^ pat) by
    have := tz_all az (adlN 1 s) pat hn hpat
    rw [← haz] at this
    rw [← haz]
    exact this)
  have HP := hid (fun W => refsum_any pat hpat W)
  have HE := hid (fun hf a n er hu => zip_turned (s := s) hf (by omega) (adlN 1 s ^^^ pat) (Nat.xor_lt_two_pow (n := 32) hn hpat) (a := a) (n := n) (er := er) hu)
  rw [haz] at HE
  have HXS := hid (xor_same (n := adlN 1 s) (p := pat))
  have hqz : (az ++ sumS (adlN 1 s ^^^ pat)).size = az.size + 4 := by rw [ByteArray.size_append]; rfl
  have HU := hid (fun W (hW : Tabs W.heap.size W) => unzip_any (az ++ sumS (adlN 1 s ^^^ pat)) (by omega) s.size W hW)
  have hps : (sumS pat).size = 4 := rfl
  have HBP := hid (fun i (hi : i < (sumS pat).size) => (byt_at (sumS pat) i hi))
  generalize hzs : zipS s = zs at *
  have HZS := hid hzs
  have HPS := hid hps
  generalize sumS pat = ps at *
  obtain ⟨K, hKe⟩ : ∃ K, az.size = K := ⟨_, rfl⟩
  rw [hKe] at HTZ hK hzz
  have HZZ := hid hzz
  have hz4 : decide (((zs.size : Nat) : Int) < 4) = false := decide_eq_false (by omega)
  have hz4b : decide (zs.size < 4) = false := decide_eq_false (by omega)
  have hzk : ((zs.size : Nat) : Int) - 4 = (K : Nat) := by omega
  have HCV := hid (fun W => run_bytes_of_string (P := Tryz.prog) W 9 41 5 zs Tryz.underlying9 Tryz.underlying41 Tryz.underlying5)
  have hzl : zs.size ≤ 1000004 := by omega
  clear ht h hn haz hzs hqz hKe hzz hps
  go_enter Tryz.func8, Tryz.ntmps8
  go_wp2_with fail
  refine HZ.out.mono ?_
  rintro e w1 ⟨hfo, rfl, hb1⟩
  have HB1 := hid hb1
  have HFO := hid hfo
  clear hb1 hfo
  have hcv := HCV.out w1
  generalize hcap : grownCap w1 zs.size 0 5 = cap at *
  have HC := hid hcap
  clear hcap
  go_wp2_with fail
  refine (HP.out _).mono ?_
  rintro e w3 ⟨rfl, hb3⟩
  have hcl : zs.size ≤ cap := by have := grownCap_ge w1 zs.size 0 5; rw [HC.out] at this; exact this
  have hb0 : ByB w3 w1.heap.size zs.size (tz zs ps K 0) := (byB_start zs cap hcl w1 (fun j _ => tz_zero zs ps K j)).bw hb3 (by simp [World.drew])
  have HBB := hid (show Below w1.heap.size w1 w3 from Below.trans (below_drewN ((Below.refl _ _).alloc (Nat.le_refl _) _) 1) (Below.mono hb3 (by simp [World.drew])))
  have HBY := hid hb0
  clear hb3 hb0 hcv
  go_wp2
  go_loopw [8] (fun i wr => ∃ k : Nat, k ≤ 4 ∧ i = .int .i64 k ∧ ByB wr w1.heap.size zs.size (tz zs ps K k) ∧ Below w1.heap.size w1 wr) (fun i _ => 4 - (intOf i).toNat)
  case atStart => exact ⟨0, Nat.zero_le _, rfl, HBY.out, HBB.out⟩
  case round =>
    rename World => wr
    obtain ⟨k, hk, rfl, hB, hbel⟩ := hrel
    by_cases hlt : k < 4
    · obtain ⟨hcB, hfB⟩ := hB (K + k) (by have := HZZ.out; omega)
      have hk4 : (k : Int) < 4 := by omega
      have hkp : k < ps.size := by rw [HPS.out]; exact hlt
      have hkpi : (k : Int) < ps.size := by omega
      have hsz : ((K : Nat) : Int) + (k : Nat) < zs.size := by have := HZZ.out; omega
      have hsz2 : K + k < zs.size := by have := HZZ.out; omega
      have hxr : bits .xor .u8 ((tz zs ps K k (K + k) : Nat) : Int) (((ps[k]'hkp).toNat : Nat) : Int) = ((tz zs ps K (k + 1) (K + k) : Nat) : Int) := by
        rw [← HBP.out k hkp, u8_xor_nat _ _ (tz_lt zs ps K k _) (byt_lt _ _), tz_next]
      have HB' := hid hB
      have HBEL := hid hbel
      have hK1 : K ≤ 1000000 := hK
      clear hB hbel
      go_wp2_with fail
      go_region
      all_goals go_wp2
      all_goals
        have HX := ByB.put (w := wr) (h := tz zs ps K (k + 1)) (K + k) HB'.out hsz2 (fun j hj => tz_far zs ps K k j hj)
        have hbel2 := below_drewN (HBEL.out.setCell (p := ⟨w1.heap.size, K + k, none⟩) (Nat.le_refl _) (.int .u8 (tz zs ps K (k + 1) (K + k) : Nat))) 1
        exact ⟨⟨k + 1, by omega, by go_num, HX, hbel2⟩, by simp [intOf]; omega⟩
    · obtain rfl : k = 4 := by omega
      have hcb := conv_tz (P := Tryz.prog) wr 41 9 5 Tryz.underlying41 Tryz.underlying5 Tryz.underlying9 (c := cap) hB
      rw [HTZ.out] at hcb
      have HBW := hid (show Bw w wr from Below.trans HB1.out (Below.mono hbel HB1.out.size))
      have HTW := hid (HT.out.bw HBW.out)
      have HUW := hid (HU.out wr HTW.out.tab)
      generalize az ++ sumS (adlN 1 s ^^^ pat) = tt at *
      clear hB hbel
      go_wp2_with fail
      refine HUW.out.mono ?_
      rintro e w4 ⟨a, n, er, rfl, hu, hb4⟩
      have her := HE.out HFO.out a n er hu
      have HB4 := hid (HBW.out.trans hb4)
      have HT4 := hid (HT.out.bw HB4.out)
      clear hu hb4 hcb
      by_cases hp0 : pat = 0
      · rw [if_pos (HXS.out.2 hp0)] at her
        subst her
        subst hp0
        go_wp2_with fail
        refine (zlive_any w4 HT4.out.tab).mono ?_
        rintro e wl ⟨rfl, hbl⟩
        have HBL := hid hbl
        clear hbl
        go_wp2
        go_returns
        exact ⟨rfl, HB4.out.trans HBL.out⟩
      · rw [if_neg (fun h => hp0 (HXS.out.1 h))] at her
        subst her
        have tp : ((pat : Int) != 0) = true := by simp; omega
        clear hp0
        go_wp2_with fail
        refine (zlive_any w4 HT4.out.tab).mono ?_
        rintro e wl ⟨rfl, hbl⟩
        have HBL := hid hbl
        clear hbl
        go_wp2
        go_returns
        exact ⟨rfl, HB4.out.trans HBL.out⟩
theorem walk (s : ByteArray) (hs : s.size ≤ 140737488351232) (pat : Int) (hw : (Lit.int .u32 pat).wf = true) (w : World) (hh : Both w) :
    Calls Tryz.prog 8 #[.string s, .int .u32 pat] w fun e w' => e = .returned (.bool true) ∧ Bw w w' := by
  have hb := hw
  simp [Lit.wf, IntKind.min, IntKind.max, IntKind.bits, IntKind.signed] at hb
  obtain ⟨p, rfl⟩ := Int.eq_ofNat_of_zero_le (show 0 ≤ pat by omega)
  by_cases h : s.size ≤ 20000
  · exact small s p (by omega) h w hh
  · exact big s p h w hh

/-! The frame: from the walk to the statement. -/
set_option maxRecDepth 100000 in
theorem lifted (os : Os) (started : os.Started) (H : Type) (enc : TypeId × Value → H) :
    ReturnsInHanded {} Tryz.checked os 8 .any (fun w args => (Rows.zlibTurnedSpec.pre enc Tryz.prog Tryz.f8 [] false w args ∧ laidMetH Tryz.prog Rows.deflateInflateRow.laid w) ∧ sizedMet enc Tryz.prog Tryz.f8 (OpenSpec.ofChange Rows.zlibTurnedSpec) false w args)
      (Rows.zlibTurnedSpec.post enc Tryz.prog Tryz.f8 false true false false) := by
  refine returnsInHanded_of_change_and (C := Tryz.checked) (X := fun w _ => laidMetH Tryz.prog Rows.deflateInflateRow.laid w) (fun _ _ _ hh h => h.of_heap hh) own started (by kernel_rfl) Tryz.func8
    (ChangeSpec.witness_shaped (enc := enc) (C := Tryz.checked) (os := os) (X := fun w _ => laidMetH Tryz.prog Rows.deflateInflateRow.laid w) false (World.doorLaid Tryz.prog 400 os) #[.string ⟨#[]⟩, .int .u32 0] 8 rfl (World.shaped_of_RefB (by kernel_rfl) (by kernel_rfl)) (by kernel_rfl) (by kernel_rfl) (by kernel_rfl) (door_met os _)) ?_
  intro W base args ds gs before hval0 hW _ hsz0 hL _
  have hval : ∀ (j : Nat) t v, Tryz.f8.params[j]? = some t → args[j]? = some v → Value.okWide Tryz.prog W .any base t v := hval0
  have hW' := hW
  obtain ⟨p, q, hA0, hV, rfl, hfz, hnd⟩ := hW
  have hA : DataW.TrodAll enc Tryz.prog W 0 (fun _ => true) true Tryz.f8.params.toList args.toList ds p := hA0
  have hsz : (DataW.weightsEach Tryz.prog (Tryz.f8.params.toList ++ Rows.zlibTurnedSpec.plain.varTypes Tryz.prog) (ds ++ gs)).all (· ≤ reachBytes) = true := hsz0
  rw [Tryz.params8] at hA hval hsz
  obtain ⟨v0, vs0, d0, ds0, p0, q0, hargs, rfl, rfl, h0, r0⟩ := trodAll_cons hA
  obtain ⟨v1, vs1, d1, ds1, p1, q1, rfl, rfl, rfl, h1, r1⟩ := trodAll_cons r0
  obtain ⟨rfl, rfl, rfl⟩ := trodAll_nil r1
  obtain rfl : args = #[v0, v1] := by cases args; simp_all
  obtain ⟨rfl, rfl⟩ := trodVars_none hV
  obtain ⟨a0, rfl, rfl, rfl, w0⟩ := open_string Tryz.underlying9 (hval 0 9 v0 rfl rfl) h0
  have z0 := sized_string hsz (j := 0) (t := 9) (bytes := a0.data.toList) rfl rfl
  obtain ⟨a1, rfl, rfl, rfl, w1⟩ := open_int Tryz.underlying38 (hval 1 38 v1 rfl rfl) h1
  clear hA0 hval0
  try simp only [List.append_nil] at hW'
  refine (walk a0 (str_le z0) a1 w1 W  (both_of hL)).mono fun e W' ⟨he, bel⟩ => ?_
  subst he
  exact ⟨_, rfl, _, _, _, [], _, [], hW', trodAll_mk1 (shut_bool Tryz.underlying4 _), (trodAll_cons_mk (shut_string Tryz.underlying9 w0) (trodAll_cons_mk (shut_int Tryz.underlying38 w1) trodAll_mk0)), rfl, Below.frame bel _, fun h => by cases h⟩

theorem holds : Rows.ZlibTurnedSaid :=
  OpenClaim.holds_of_wide 8 Tryz.f8 rfl rfl rfl rfl rfl rfl rfl ⟨rfl, rfl, rfl, rfl, rfl⟩ rfl rfl rfl rfl rfl (by kernel_rfl) Tryz.func8 (by kernel_rfl)
    (of_decide_eq_true (by kernel_rfl)) (by unfold Func.isWrapper; first | (rw [if_pos (by decide +kernel)]; kernel_rfl) | (rw [if_neg (by decide +kernel)]; exact ⟨rfl, rfl⟩))
    (fun os started H enc _ => lifted os started H enc)

theorem proved : Rows.ZlibTurnedCardSaid :=
  Claim7.holds_tied_plain_at .later [] [.data, .wider, .wider, .data] true _ true
    holds (fun _ h => by cases h) (by kernel_rfl) (fun _ h => by cases h) zlibTurned_row_tie rfl ⟨rfl, rfl⟩ (by kernel_rfl) rfl
    (fun f fn hf hfn => by
      obtain rfl : f = 8 := Option.some.inj ((show Tryz.prog.funcNamed "mortise/mortiselaw10.ZlibTurned" = some 8 by kernel_rfl).symm.trans hf) |>.symm
      obtain rfl : fn = Tryz.f8 := (Option.some.inj (Tryz.func8.symm.trans hfn)).symm
      exact ⟨by kernel_rfl, fun j t ht => by
        rw [Tryz.params8] at ht
        have hm : t ∈ [9, 38] := by simpa using Array.mem_of_getElem? ht
        have hall : ([9, 38].all fun u => !Tryz.prog.wantsStandIn u) = true := by kernel_rfl
        exact (show Tryz.prog.wantsStandIn t = false by simpa using List.all_eq_true.1 hall t hm)⟩)
    (by kernel_rfl)
end Go.Proofs.YtkmbgkcpohchhaaGreatDoor.zlibTurned

/- A number's digits are appended: strconv.AppendUint at base 10 (contracts; the kit's small, numDigits, formatBase10 laid). -/
import Derived.Test.YtlilmidffcmkjaaGreatDoorShelfE
import Derived.Test.YtlilmidffcmkjaaGreatDoorPlnE
import Derived.Test.YtlilmidffcmkjaaGreatDoorKitE
import Derived.WalkSmall
import Derived.Maps.AppendAt
import Derived.Lib.AppendIntMem
import Derived.Lib.ItoaMem
namespace Go.Proofs.YtlilmidffcmkjaaGreatDoor
open Go.RowKit Go.Sort Go.Lib
set_option linter.unusedVariables false
set_option linter.unusedSimpArgs false
theorem dec_is : ∀ m n : Nat, n < m → decB n = Lib.decDigits n
  | 0, n, h => by omega
  | m + 1, n, h => by
    rw [Lib.decDigits]
    by_cases c : n < 10
    · rw [dif_pos c, decB_small c]
    · rw [dif_neg c, decB_more c, dec_is m (n / 10) (by omega)]
theorem dec_eq (n : Nat) : decB n = Lib.decDigits n := dec_is (n + 1) n (Nat.lt_succ_self n)
theorem byteCells_bcs (l : List UInt8) : Lib.byteCells l = bcs l := by
  unfold Lib.byteCells bcs
  rfl
theorem gPow : Tryz.prog.globalNamed "internal/strconv.uint64pow10" = some 1 := by kernel_rfl
/-- The library's table of tens, in memory. -/
def PowAt (w : World) : Prop := Lib.TabIs Tryz.prog w "internal/strconv.uint64pow10" .u64 Lib.pow10Tab
theorem PowAt.lt {w : World} (h : PowAt w) : 1 < w.heap.size := by
  have := Lib.TabIs.cell h gPow 0 (by rw [Lib.pow10Tab_length]; decide)
  exact cell_lt this
theorem PowAt.bw {w w' : World} (h : PowAt w) (hb : Bw w w') : PowAt w' := var?_below hb gPow h.lt h
/-- What appending digits leaves. -/
def DigP (w : World) (v : Value) (n : Nat) (xs : List Value) (m : Nat) (e : Ending) (w' : World) : Prop :=
  ∃ v', e = .returned v' ∧ w'.ownsRow 0 5 1 v' (n + (decB m).length) (xs ++ bcs (decB m)) ∧ w.grownBy w' v.ownBlock ∧ (v'.ownBlock = v.ownBlock ∨ ∀ b, v'.ownBlock = some b → w.heap.size ≤ b)
theorem grown_bw {a b c : World} {row : Option Nat} (h : Bw a b) (hr : ∀ i, row = some i → i < a.heap.size) (k : b.grownBy c row) : a.grownBy c row :=
  ⟨k.os.trans h.os, k.tape.trans h.tape, k.output.trans h.output, Nat.le_trans h.size k.size, fun i hi hn => (k.block i (Nat.lt_of_lt_of_le hi h.size) hn).trans (h.block i hi)⟩
set_option maxRecDepth 100000 in
set_option maxHeartbeats 4000000 in
theorem digits_small (w : World) (v : Value) (n : Nat) (xs : List Value) (m : Nat) (hm : m < 100) (hn : n ≤ 1000000) (hown : w.ownsRow 0 5 1 v n xs) :
    Calls Tryz.prog 46 #[v, .int .u64 m, .int .i64 10] w (DigP w v n xs m) := by
  obtain ⟨i0, hinf, hz0, hz1, hz2⟩ := info_parts byteInfo
  have HSM := hid (Any.internal_strconv_small { laysM288 with } m hm w)
  have hsz : (⟨(Lib.decDigits m).toArray⟩ : ByteArray).size = (decB m).length := by rw [dec_eq]; simp [ByteArray.size]
  have hln : (decB m).length ≤ 19 := decB_len (by rw [mostN_val]; omega)
  have hcl : Lib.strCells ⟨(Lib.decDigits m).toArray⟩ = bcs (decB m) := by rw [strCells_bcs, dec_eq]
  obtain ⟨d, hd⟩ : ∃ d : ByteArray, ⟨(Lib.decDigits m).toArray⟩ = d := ⟨_, rfl⟩
  rw [hd] at HSM hsz hcl
  have HC := hid hcl
  have HZ := hid hsz
  have HDP : Hid (∀ e w', (∃ v', e = .returned v' ∧ w'.ownsRow 0 5 1 v' (n + d.size) (xs ++ Lib.strCells d) ∧ w.grownBy w' v.ownBlock ∧ (v'.ownBlock = v.ownBlock ∨ ∀ b, v'.ownBlock = some b → w.heap.size ≤ b)) → DigP w v n xs m e w') := hid (fun e w' q => by rw [hcl, hsz] at q; exact q)
  obtain ⟨ao, ca, rfl⟩ := own_slice hown
  have hdz : d.size ≤ 19 := by omega
  have im : ((m : Nat) : Int) < 100 := by omega
  have hmw : IntKind.i64.wrap ((m : Nat) : Int) = m := IntWalk.i64_in _ (by omega)
  have HO := hid hown
  obtain ⟨P, hP⟩ : ∃ P, DigP w (.slice ao n ca) n xs m = P := ⟨_, rfl⟩
  rw [hP] at HDP ⊢
  clear hd hcl hsz hln hown hm hP
  go_enter Tryz.func46, Tryz.ntmps46
  go_wp2_with fail
  refine HSM.out.mono ?_
  rintro e w2 ⟨rfl, rfl⟩
  go_wp2_with (at_builtin; refine wpList_app_str rfl (.tmp 13) (.tmp 16) 62 9 rfl Tryz.underlying62 Tryz.underlying9 hinf hz0 hz1 hz2 (.slice ao n ca) n xs rfl HO.out d rfl (by omega) ?_; intro v5 w5 hown5 hgrow5 hnb5; obtain ⟨vo5, vc5, rfl⟩ := own_slice hown5; have HO5 := hid hown5; have HG5 := hid hgrow5; have HN5 := hid hnb5; clear hown5 hgrow5 hnb5)
  go_wp2
  exact HDP.out _ _ ⟨_, rfl, HO5.out, HG5.out, HN5.out⟩
set_option maxRecDepth 100000 in
set_option maxHeartbeats 4000000 in
theorem digits_big (w : World) (v : Value) (n : Nat) (xs : List Value) (m : Nat) (hm : 100 ≤ m) (hmm : m ≤ mostN) (hn : n ≤ 1000000) (hown : w.ownsRow 0 5 1 v n xs) (htab : PowAt w) :
    Calls Tryz.prog 46 #[v, .int .u64 m, .int .i64 10] w (DigP w v n xs m) := by
  obtain ⟨i0, hinf, hz0, hz1, hz2⟩ := info_parts byteInfo
  rw [mostN_val] at hmm
  have hu64 : m < 18446744073709551616 := by omega
  have hu1 : 1 ≤ m := by omega
  have hnd20 : Lib.nDigits m ≤ 20 := by have := Lib.numDigits_eq m hu1 hu64; split at this <;> omega
  have hal : Tryz.prog.arrayLen 94 = 24 := by simp [Program.arrayLen, Tryz.underlying94]
  have hsl : ∀ W, (Instr.sliceAt 94 (.pointer (some ⟨w.heap.size, 0, none⟩)) none (some (.int .i64 (Lib.nDigits m : Int))) none).run Tryz.prog W = .ok (.slice (some ⟨w.heap.size, 0, none⟩) (Lib.nDigits m) 24) W := fun W => by
    rw [run_sliceAt_array_h W 94 ⟨w.heap.size, 0, none⟩ (by simp [Program.arrayLen, Program.elem, Tryz.underlying94]) .i64 (Lib.nDigits m : Int) (by omega) (by rw [hal]; omega)]
    go_simp
  have hH0 := Lib.holds_zero0 w 94 (Lib.nDigits m) (by omega)
  have hfmt := Any.internal_strconv_formatBase10 { laysM288 with } w.heap.size 0 24 m (Array.replicate (Lib.nDigits m) 0) (w.alloc (.cells Lib.zeros24 94)) hH0 (by rw [Array.size_replicate]; exact Lib.lt_pow_nDigits m) hu64 (by rw [Array.size_replicate]; omega)
  rw [Array.size_replicate] at hfmt
  have HFM := hid hfmt
  have HH0 := hid hH0
  have HND := hid (Any.internal_strconv_numDigits { laysM288 with } m hu1 hu64 (w.alloc (.cells Lib.zeros24 94)) (Lib.tabIs_alloc htab _))
  have iu : ¬ ((m : Nat) : Int) < 100 := by omega
  have HO := hid hown
  have hlen : (decB m).length = Lib.nDigits m := by rw [dec_eq, Lib.decDigits_length]
  have hcl : Lib.byteCells (Lib.decDigits m) = bcs (decB m) := by rw [byteCells_bcs, dec_eq]
  have HDP : Hid (∀ e w', (∃ v', e = .returned v' ∧ w'.ownsRow 0 5 1 v' (n + Lib.nDigits m) (xs ++ Lib.byteCells (Lib.decDigits m)) ∧ w.grownBy w' v.ownBlock ∧ (v'.ownBlock = v.ownBlock ∨ ∀ b, v'.ownBlock = some b → w.heap.size ≤ b)) → DigP w v n xs m e w') := hid (fun e w' q => by rw [hcl, ← hlen] at q; exact q)
  have HRW := hid (fun b (hb : v.ownBlock = some b) => own_lt hown hb)
  obtain ⟨ao, ca, rfl⟩ := own_slice hown
  obtain ⟨P, hP⟩ : ∃ P, DigP w (.slice ao n ca) n xs m = P := ⟨_, rfl⟩
  rw [hP] at HDP ⊢
  clear hH0 hal hfmt hlen hcl hown htab hP
  go_enter Tryz.func46, Tryz.ntmps46
  go_wp2_with (go_at_call 57; refine HND.out.mono ?_; rintro e w' ⟨rfl, rfl⟩)
  refine HFM.out.mono ?_
  rintro e w' ⟨rfl, k, v', dk, rfl, hF⟩
  have hcells : ∀ j u', (Lib.byteCells (Lib.decDigits m))[j]? = some u' → ((putRow (fun (b : UInt8) => Value.int .u8 (b.toNat : Int)) (w.alloc (.cells Lib.zeros24 94)) w.heap.size 0 dk).drewN k).cell? ((⟨w.heap.size, 0, none⟩ : Addr).add j) = some u' := by
    intro j u' hj
    have hjl : j < (Lib.decDigits m).length := by
      have h5 := (List.getElem?_eq_some_iff.1 hj).1
      rwa [Lib.byteCells_length] at h5
    have e5 : (Lib.byteCells (Lib.decDigits m))[j]? = some (Value.int .u8 ((Lib.decDigits m)[j].toNat : Int)) := by simp [Lib.byteCells, hjl]
    rw [e5] at hj
    cases hj
    rw [Lib.row_is_numeral hF j hjl, Lib.add_plain, World.cell?_drewN]
    exact cell?_putRow (fun (b : UInt8) => Value.int .u8 (b.toNat : Int)) _ w.heap.size 0 _ dk HH0.out (by rw [hF.size, Array.size_replicate]) j (by rw [hF.size]; rw [Lib.decDigits_length] at hjl; exact hjl)
  obtain ⟨os, eo⟩ := Lib.fin_at w (.cells Lib.zeros24 94) dk k 0
  have hbw2 : Bw w ((putRow (fun (b : UInt8) => Value.int .u8 (b.toNat : Int)) (w.alloc (.cells Lib.zeros24 94)) w.heap.size 0 dk).drewN k) := by rw [eo]; exact Lib.below_grow w.heap.size w (Nat.le_refl _) k os
  have HB2 := hid hbw2
  generalize (putRow (fun (b : UInt8) => Value.int .u8 (b.toNat : Int)) (w.alloc (.cells Lib.zeros24 94)) w.heap.size 0 dk).drewN k = W2 at *
  have HC := hid hcells
  have HO2 := hid (HB2.out.own HO.out)
  have hcl2 : (Lib.byteCells (Lib.decDigits m)).length = Lib.nDigits m * 1 := by rw [Lib.byteCells_length, Lib.decDigits_length, Nat.mul_one]
  have HL2 := hid hcl2
  clear eo hbw2 hcells hcl2 hF
  go_wp2_with (at_builtin; refine wpList_append_own_at _ rfl (.tmp 24) (.tmp 26) 62 rfl 0 5 i0 (.int .u8 0) 1 1 Tryz.underlying62 hinf hz0 hz1 hz2 rfl (by decide) (.slice ao n ca) n xs rfl HO2.out ⟨w.heap.size, 0, none⟩ (Lib.nDigits m) 24 (Lib.byteCells (Lib.decDigits m)) rfl HL2.out HC.out (by intro u' hu'; simp only [Lib.byteCells, List.mem_map] at hu'; obtain ⟨b, _, rfl⟩ := hu'; rfl) (by unfold maxLen; omega) (by omega) (Nat.zero_le _) ?_; intro v5 w5 hown5 hgrow5 _ hnb5; obtain ⟨vo5, vc5, rfl⟩ := own_slice hown5; have HO5 := hid hown5; have HG5 := hid hgrow5; have HN5 := hid hnb5; clear hown5 hgrow5 hnb5)
  go_wp2
  exact HDP.out _ _ ⟨_, rfl, HO5.out, grown_bw HB2.out (fun i hi => HRW.out i hi) HG5.out, HN5.out.imp_right fun e b hb => by have hb2 := e.symm.trans hb; injection hb2 with h; have := HB2.out.size; omega⟩
set_option maxRecDepth 100000 in
set_option maxHeartbeats 1000000 in
theorem digits_any (w : World) (v : Value) (n : Nat) (xs : List Value) (m : Nat) (hmm : m ≤ mostN) (hn : n ≤ 1000000) (hown : w.ownsRow 0 5 1 v n xs) (htab : PowAt w) :
    Calls Tryz.prog 34 #[v, .int .u64 m, .int .i64 10] w (DigP w v n xs m) := by
  have HI : Hid (Calls Tryz.prog 46 #[v, .int .u64 m, .int .i64 10] w (DigP w v n xs m)) := by
    by_cases h : m < 100
    · exact digits_small w v n xs m h hn hown
    · exact digits_big w v n xs m (by omega) hmm hn hown htab
  clear hown htab
  go_enter Tryz.func34, Tryz.ntmps34
  go_wp2_with fail
  refine HI.out.mono ?_
  rintro e w' ⟨v', rfl, h1, h2, h3⟩
  obtain ⟨vo5, vc5, rfl⟩ := own_slice h1
  have H1 := hid h1
  have H2 := hid h2
  have H3 := hid h3
  clear h1 h2 h3
  go_wp2
  go_returns
  exact ⟨_, rfl, H1.out, H2.out, H3.out⟩
end Go.Proofs.YtlilmidffcmkjaaGreatDoor

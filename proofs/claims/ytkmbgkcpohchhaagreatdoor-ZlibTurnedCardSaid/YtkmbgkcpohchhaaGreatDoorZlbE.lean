import Derived.Test.YtkmbgkcpohchhaaGreatDoorGZlbW
import Derived.Test.YtkmbgkcpohchhaaGreatDoorZlbF
import Derived.Test.YtkmbgkcpohchhaaGreatDoorDecH
/- Zip (contract of the function; the listed table holds what the program's text lays); what is zipped is unzipped (plain). -/
namespace Go.Proofs.YtkmbgkcpohchhaaGreatDoor
open Go.RowKit Go.Conc
set_option linter.unusedVariables false
def zipH : ByteArray := ⟨#[120, 156]⟩
/-- What Zip tells. -/
def zipS (s : ByteArray) : ByteArray := zipH ++ defS s (findL s) ++ sumS (adlN 1 s)
theorem bytes4_sum (n : Nat) (h : n < 4294967296) : bytesV n 4 true = sumS n ∧ bytesE n 4 = 0 := by
  have hE : bytesE n ((4 : Nat) : Int) = 0 := bytesE_ok (by decide) (by rw [show (2 : Nat) ^ (8 * 4) = 4294967296 by decide]; exact Nat.div_eq_of_lt h)
  refine ⟨?_, hE⟩
  rw [show (4 : Int) = ((4 : Nat) : Int) from rfl, bytesV_ok hE]
  have key : ∀ e : Nat, UInt8.ofNat ((n : Int) / 2 ^ e % 256).toNat = UInt8.ofNat (n / 2 ^ e) := fun e => by
    rw [shr_cast]
    rw [show (((n / 2 ^ e : Nat) : Int) % 256).toNat = n / 2 ^ e % 256 by omega, u8_ofmod]
  unfold bytesS strOf sumS byteAt
  simp only [List.range, List.range.loop, List.map, if_true, key]
  simp
theorem adl_lt (s : ByteArray) : adlN 1 s < 4294967296 := adlN_lt 1 s
set_option maxRecDepth 100000 in
set_option maxHeartbeats 4000000 in
theorem zip_any (s : ByteArray) (hs : s.size ≤ 1000000) (w : World) (hO : OrdAt w) :
    Calls Tryz.prog 20 #[.string s] w fun e w' => FindOk s (findL s) ∧ e = .returned (.string (zipS s)) ∧ Bw w w' := by
  have HA := hid (adler_any s (by show s.size ≤ 281474976710656; omega) w)
  have HD := hid (fun W hW => Deflate_any s hs W hW)
  have hn := adl_lt s
  obtain ⟨b1, b2⟩ := bytes4_sum (adlN 1 s) hn
  have HB := hid (fun W => bytes_any (adlN 1 s) 4 true W)
  rw [b1, b2] at HB
  have HZ := hid (show zipS s = zipH ++ defS s (findL s) ++ sumS (adlN 1 s) from rfl)
  have HO := hid hO
  have hd := def_size s (findL s)
  have h4 : (sumS (adlN 1 s)).size = 4 := rfl
  have g1 : ¬ 9223372036854775807 < 2 + (defS s (findL s)).size := by omega
  have g2 : ¬ 9223372036854775807 < 2 + (defS s (findL s)).size + (sumS (adlN 1 s)).size := by omega
  clear hd h4
  generalize adlN 1 s = n at *
  generalize sumS n = sm at *
  clear b1 b2 hO
  go_enter Tryz.func20, Tryz.ntmps20
  go_wp2_with fail
  refine HA.out.mono ?_
  rintro e w1 ⟨rfl, rfl⟩
  go_wp2_with fail
  refine (HB.out w).mono ?_
  rintro e w2 ⟨rfl, hb2⟩
  have HB2 := hid hb2
  have HO2 := hid (HO.out.bw hb2)
  clear hb2
  go_wp2_with fail
  refine (HD.out w2 HO2.out).mono ?_
  rintro e w3 ⟨ts, hfo, rfl, hb3, rfl⟩
  have HB3 := hid (HB2.out.trans hb3)
  have HFO := hid hfo
  clear hb3 hfo
  go_wp2
  go_returns
  exact ⟨HFO.out, by rw [HZ.out]; rfl, HB3.out⟩
theorem bt_list (s : ByteArray) (i : Nat) : bt s i = (s.data.toList.getD i 0).toNat := by
  unfold bt
  split
  · rename_i h
    rw [List.getD_eq_getElem?_getD, List.getElem?_eq_getElem (by simpa using h)]
    simp
    rfl
  · rename_i h
    rw [List.getD_eq_getElem?_getD, List.getElem?_eq_none (by simp; exact Nat.le_of_not_lt h)]
    rfl
theorem ba_ext {a b : ByteArray} (h : a.data.toList = b.data.toList) : a = b := by
  obtain ⟨a⟩ := a
  obtain ⟨b⟩ := b
  congr 1
  exact Array.toList_inj.1 h
/-- What stands in a zipped text. -/
theorem zip_parts {s : ByteArray} (hf : FindOk s (findL s)) (hs : s.size ≤ 1000000) (q : Nat) (hq : q < 4294967296) (more : ByteArray) {z : ByteArray} (hz : z = zipH ++ defS s (findL s) ++ sumS q ++ more) :
    early z s.size = none ∧ InfR (z.extract 2 z.size) s.size s ((defS s (findL s)).size : Nat) 0 ∧ numAt z (2 + (((defS s (findL s)).size : Nat) : Int)).toNat 4 true = q ∧ z.size = 6 + (defS s (findL s)).size + more.size := by
  obtain ⟨k, hk, hkz⟩ := def_leads hf (sumS q ++ more)
  generalize defS s (findL s) = ds at *
  have hl : z.data.toList = 120 :: 156 :: (ds.data.toList ++ ((sumS q).data.toList ++ more.data.toList)) := by
    rw [hz, append_list, append_list, append_list]
    simp [zipH]
  have h4 : (sumS q).data.toList.length = 4 := rfl
  have hsz : z.size = 6 + ds.size + more.size := by
    rw [← size_list z, hl, List.length_cons, List.length_cons, List.length_append, List.length_append, size_list, h4, size_list]
    omega
  refine ⟨?_, ?_, ?_, hsz⟩
  · refine early_none (by omega) (by omega) ((head_num z 120 156 (by rw [bt_list, hl]; rfl) (by rw [bt_list, hl]; rfl)).2.2.2 (by decide))
  · have he : z.extract 2 z.size = ds ++ (sumS q ++ more) := ba_ext (by rw [ext_drop, hl, append_list, append_list]; rfl)
    rw [he]
    exact .inr ⟨s.size, rfl, by omega, .inl ⟨k, s.data.toList, hk, rfl, by rw [hkz], rfl⟩⟩
  · rw [show (2 + ((ds.size : Nat) : Int)).toNat = 2 + ds.size by omega]
    refine (sum_eq z (2 + ds.size) q (by omega) hq).1 (ba_ext ?_)
    have hc := cut_list z (2 + ds.size) 4
    unfold cut at hc
    rw [hc, hl]
    rw [show 2 + ds.size = ds.size + 2 by omega]
    show List.take 4 (List.drop ds.size (ds.data.toList ++ ((sumS q).data.toList ++ more.data.toList))) = _
    rw [List.drop_append_of_le_length (by rw [size_list]; exact Nat.le_refl _), List.drop_of_length_le (by rw [size_list]; exact Nat.le_refl _), List.nil_append, List.take_append_of_le_length (by rw [h4]; exact Nat.le_refl _), List.take_of_length_le (by rw [h4]; exact Nat.le_refl _)]
/-- What is zipped is unzipped, whatever stands behind. -/
theorem zip_back {s : ByteArray} (hf : FindOk s (findL s)) (hs : s.size ≤ 1000000) (more : ByteArray) : UnzR (zipS s ++ more) s.size s ((zipS s).size : Nat) 0 := by
  obtain ⟨h1, h2, h3, h4⟩ := zip_parts hf hs (adlN 1 s) (adl_lt s) more (z := zipS s ++ more) rfl
  obtain ⟨_, _, _, h5⟩ := zip_parts hf hs (adlN 1 s) (adl_lt s) ⟨#[]⟩ (z := zipS s) (by rw [app_nil]; rfl)
  refine .inr ⟨h1, s, _, 0, h2, ?_⟩
  rw [late_ok (by omega) h3]
  have h6 : (⟨#[]⟩ : ByteArray).size = 0 := rfl
  rw [h6] at h5
  have h7 : (6 : Int) + ((defS s (findL s)).size : Nat) = ((zipS s).size : Nat) := by omega
  rw [h7]
/-- A sum of which bits are turned is told. -/
theorem zip_turned {s : ByteArray} (hf : FindOk s (findL s)) (hs : s.size ≤ 1000000) (q : Nat) (hq : q < 4294967296) {a : ByteArray} {n er : Int} (h : UnzR (zipH ++ defS s (findL s) ++ sumS q) s.size a n er) : er = if q = adlN 1 s then 0 else 4 := by
  obtain ⟨h1, h2, h3, h4⟩ := zip_parts hf hs q hq ⟨#[]⟩ (z := zipH ++ defS s (findL s) ++ sumS q) (by rw [app_nil])
  by_cases hc : q = adlN 1 s
  · rw [if_pos hc]
    exact (h.unique (.inr ⟨h1, s, _, 0, h2, late_ok (by omega) (h3.trans hc)⟩)).2.2
  · rw [if_neg hc]
    exact (h.unique (.inr ⟨h1, s, _, 0, h2, late_sum (by omega) (by rw [h3]; exact hc)⟩)).2.2
end Go.Proofs.YtkmbgkcpohchhaaGreatDoor

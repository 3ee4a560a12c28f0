import Derived.Test.YtkmbgkcpohchhaaGreatDoorGTokKit
import Derived.Test.YtkmbgkcpohchhaaGreatDoorGHufU
import Derived.Maps.AppendAt
import Derived.IntWalk
/- Stored, by the document (contract of the function). -/
namespace Go.Proofs.YtkmbgkcpohchhaaGreatDoor
open Go.RowKit Go.Conc
set_option linter.unusedVariables false
theorem cells_new (w : World) (t : TypeId) (cs : Array Value) (j : Nat) (u : Value) (h : cs.toList[j]? = some u) : (w.alloc (.cells cs t)).cell? (Addr.add ⟨w.heap.size, 0, none⟩ j) = some u := by
  have hh := Has.new w t cs
  rw [addr_add, hh.cell j]
  simpa using h
theorem blk5 (last : Bool) (n : Nat) (hn : n ≤ 65535) (c : List UInt8) (hc : c.length = n) :
    bcs (blkB last c) = [.int .u8 (lb1 last : Nat), .int .u8 ((n % 256 : Nat) : Int), .int .u8 ((n / 256 : Nat) : Int), .int .u8 ((255 - n % 256 : Nat) : Int), .int .u8 ((255 - n / 256 : Nat) : Int)] ++ bcs c := by
  have h0 : (UInt8.ofNat (lb1 last)).toNat = lb1 last := by have := lb1_le last; simp; omega
  have h1 : (UInt8.ofNat n).toNat = n % 256 := by simp
  have h2 : (UInt8.ofNat (n / 256)).toNat = n / 256 := by simp; omega
  have h3 : (UInt8.ofNat (65535 - n)).toNat = 255 - n % 256 := by simp; omega
  have h4 : (UInt8.ofNat ((65535 - n) / 256)).toNat = 255 - n / 256 := by simp; omega
  unfold blkB bcs
  rw [hc, List.map_append]
  simp only [List.map_cons, List.map_nil, h0, h1, h2, h3, h4]
theorem blk5i (last : Bool) (n : Nat) (hn : n ≤ 65535) (c : List UInt8) (hc : c.length = n) :
    bcs (blkB last c) = [.int .u8 (lb1 last : Nat), .int .u8 ((n : Int) % 256), .int .u8 ((n : Int) / 256), .int .u8 (255 - (n : Int) % 256), .int .u8 (255 - (n : Int) / 256)] ++ bcs c := by
  rw [blk5 last n hn c hc, show ((n % 256 : Nat) : Int) = (n : Int) % 256 by omega, show ((n / 256 : Nat) : Int) = (n : Int) / 256 by omega, show ((255 - n % 256 : Nat) : Int) = 255 - (n : Int) % 256 by omega, show ((255 - n / 256 : Nat) : Int) = 255 - (n : Int) / 256 by omega]
theorem bcs_app (a b : List UInt8) : bcs (a ++ b) = bcs a ++ bcs b := List.map_append
set_option maxRecDepth 100000 in
set_option maxHeartbeats 4000000 in
theorem rStored_any (s : ByteArray) (hs : s.size ≤ 1000000) (w : World) :
    Calls Tryz.prog 15 #[.string s] w fun e w' => e = .returned (.string ⟨(stoL s.data.toList).toArray⟩) ∧ Bw w w' := by
  obtain ⟨i0, hi, hz0, hz1, hz2⟩ := info_parts byteInfo
  go_enter Tryz.func15, Tryz.ntmps15
  go_wp2_with fail
  go_loopw [0, 3] (fun vs vo wr => ∃ (L : List UInt8) (t : ByteArray), vs = .string t ∧ L ++ stoL t.data.toList = stoL s.data.toList ∧ t.size ≤ s.size ∧ wr.ownsRow w.heap.size 5 1 vo L.length (bcs L) ∧ Bw w wr) (fun vs _ _ => strSz vs)
  case atStart => exact ⟨[], s, rfl, rfl, Nat.le_refl _, World.ownsRow_nil _ _ _ _, Bw.refl w⟩
  case round =>
    obtain ⟨L, t, rfl, hL, hts, hown, hbw⟩ := hrel
    rename World => wr
    obtain ⟨vo, vc, rfl⟩ := own_slice hown
    have hlen := congrArg List.length hL
    have hsl := stoL_len _ _ (Nat.le_refl s.data.toList.length)
    rw [List.length_append] at hlen
    rw [size_list] at hsl
    have hLn : L.length ≤ 2000000 := by omega
    have hbz := hbw.size
    have HO := hid hown
    have HBW := hid hbw
    have HL := hid hL
    have HTS := hid hts
    obtain ⟨m, hm⟩ : ∃ m, L.length = m := ⟨_, rfl⟩
    have HM := hid hm
    rw [hm] at HO hLn ⊢
    clear hown hbw hL hlen hsl hm hts
    obtain ⟨x, hx⟩ : ∃ x : Int, ((t.size : Nat) : Int) = x := ⟨_, rfl⟩
    have hx0 : 0 ≤ x := by omega
    have HX := hid hx
    rcases (show x < 65535 ∨ x = 65535 ∨ 65535 < x by omega) with hlt | hlt | hlt
    · have hmin : min 65535 x = x := by omega
      go_wp2_with (first
        | (at_builtin; refine wpList_append_own_at _ rfl (.tmp 13) (.tmp 29) 41 rfl w.heap.size 5 i0 (.int .u8 0) 1 1 Tryz.underlying41 hi hz0 hz1 hz2 rfl (by decide) (.slice vo m vc) m (bcs L) rfl (((Bw.refl wr).alloc _).own HO.out) ⟨wr.heap.size, 0, none⟩ 5 5 [.int .u8 1, .int .u8 (x % 256), .int .u8 (x / 256), .int .u8 (255 - x % 256), .int .u8 (255 - x / 256)] rfl rfl (cells_new wr 5 #[.int .u8 1, .int .u8 (x % 256), .int .u8 (x / 256), .int .u8 (255 - x % 256), .int .u8 (255 - x / 256)]) (by intro u hu; simp at hu; rcases hu with rfl | rfl | rfl | rfl | rfl <;> rfl) (by unfold maxLen; omega) (by omega) (by simp only [World.size_alloc]; omega) ?_; intro v5 w5 hown5 hgrow5 _ _; obtain ⟨vo5, vc5, rfl⟩ := own_slice hown5; have HO5 := hid hown5; have HG5 := hid hgrow5; clear hown5 hgrow5)
        | (at_builtin; refine wpList_app_str rfl (.tmp 31) (.tmp 34) 41 9 rfl Tryz.underlying41 Tryz.underlying9 hi hz0 hz1 hz2 (.slice vo5 (m + 5) vc5) (m + 5) _ rfl (own_down HO5.out (Nat.zero_le _)) _ rfl (by have h1 := HTS.out; have h2 := HX.out; simp; omega) ?_; intro v6 w6 hown6 hgrow6 hblk6; have HO6 := hid hown6; have HG6 := hid hgrow6; have HK6 := hid hblk6; clear hown6 hgrow6 hblk6))
      have hBA : Bw w (wr.alloc (.cells #[.int .u8 1, .int .u8 (x % 256), .int .u8 (x / 256), .int .u8 (255 - x % 256), .int .u8 (255 - x / 256)] 5)) := HBW.out.alloc _
      have hB5 : Bw w w5 := Below.trans hBA (own_grownJ HO.out HG5.out (by simp only [World.size_alloc]; omega))
      have hB6 : Bw w w6 := Below.trans hB5 (own_grownJ HO5.out HG6.out hB5.size)
      have HB6 := hid hB6
      have hxx := HX.out
      have hO := HO6.out
      have e0 : t.extract 0 x.toNat = t := by
        apply ByteArray.ext
        simp only [ByteArray.data_extract]
        exact Array.extract_eq_self_of_le (by show t.size ≤ _; omega)
      rw [e0, strCells_bcs, List.append_assoc] at hO
      have e6 := blk5i true t.size (by omega) t.data.toList (size_list t)
      rw [hxx] at e6
      rw [show ((lb1 true : Nat) : Int) = 1 from rfl] at e6
      rw [Nat.add_assoc] at hO
      have hL2 : L ++ blkB true t.data.toList = stoL s.data.toList := by rw [← HL.out, stoL_last (by rw [size_list]; omega)]
      have hcv := conv_bytes (l := stoL s.data.toList) (by rw [← hL2, List.length_append, blkB_len, size_list, HM.out]) (by rw [← hL2, bcs_app, e6]; exact hO)
      clear hO e6 e0 hxx hB5 hB6 hBA
      rw [hcv]
      go_wp2
      go_returns
      exact ⟨rfl, HB6.out⟩
    · subst hlt
      go_wp2_with (first
        | (at_builtin; refine wpList_append_own_at _ rfl (.tmp 13) (.tmp 29) 41 rfl w.heap.size 5 i0 (.int .u8 0) 1 1 Tryz.underlying41 hi hz0 hz1 hz2 rfl (by decide) (.slice vo m vc) m (bcs L) rfl (((Bw.refl wr).alloc _).own HO.out) ⟨wr.heap.size, 0, none⟩ 5 5 [.int .u8 1, .int .u8 255, .int .u8 255, .int .u8 0, .int .u8 0] rfl rfl (cells_new wr 5 #[.int .u8 1, .int .u8 255, .int .u8 255, .int .u8 0, .int .u8 0]) (by intro u hu; simp at hu; rcases hu with rfl | rfl | rfl | rfl | rfl <;> rfl) (by unfold maxLen; omega) (by omega) (by simp only [World.size_alloc]; omega) ?_; intro v5 w5 hown5 hgrow5 _ _; obtain ⟨vo5, vc5, rfl⟩ := own_slice hown5; have HO5 := hid hown5; have HG5 := hid hgrow5; clear hown5 hgrow5)
        | (at_builtin; refine wpList_app_str rfl (.tmp 31) (.tmp 34) 41 9 rfl Tryz.underlying41 Tryz.underlying9 hi hz0 hz1 hz2 (.slice vo5 (m + 5) vc5) (m + 5) _ rfl (own_down HO5.out (Nat.zero_le _)) _ rfl (by have h1 := HTS.out; have h2 := HX.out; simp; omega) ?_; intro v6 w6 hown6 hgrow6 hblk6; have HO6 := hid hown6; have HG6 := hid hgrow6; have HK6 := hid hblk6; clear hown6 hgrow6 hblk6))
      have hBA : Bw w (wr.alloc (.cells #[.int .u8 1, .int .u8 255, .int .u8 255, .int .u8 0, .int .u8 0] 5)) := HBW.out.alloc _
      have hB5 : Bw w w5 := Below.trans hBA (own_grownJ HO.out HG5.out (by simp only [World.size_alloc]; omega))
      have hB6 : Bw w w6 := Below.trans hB5 (own_grownJ HO5.out HG6.out hB5.size)
      have HB6 := hid hB6
      have hxx := HX.out
      have hO := HO6.out
      have e0 : t.extract 0 65535 = t := by
        apply ByteArray.ext
        simp only [ByteArray.data_extract]
        exact Array.extract_eq_self_of_le (by show t.size ≤ _; omega)
      rw [e0, strCells_bcs, List.append_assoc] at hO
      have e6 := blk5i true t.size (by omega) t.data.toList (size_list t)
      rw [hxx] at e6
      have e6 : bcs (blkB true t.data.toList) = [.int .u8 (lb1 true : Nat), .int .u8 255, .int .u8 255, .int .u8 0, .int .u8 0] ++ bcs t.data.toList := e6
      rw [show ((lb1 true : Nat) : Int) = 1 from rfl] at e6
      rw [Nat.add_assoc] at hO
      have hL2 : L ++ blkB true t.data.toList = stoL s.data.toList := by rw [← HL.out, stoL_last (by rw [size_list]; omega)]
      have hcv := conv_bytes (l := stoL s.data.toList) (by rw [← hL2, List.length_append, blkB_len, size_list, HM.out]) (by rw [← hL2, bcs_app, e6]; exact hO)
      clear hO e6 e0 hxx hB5 hB6 hBA
      rw [hcv]
      go_wp2
      go_returns
      exact ⟨rfl, HB6.out⟩
    · have hmin : min 65535 x = 65535 := by omega
      have hne : ((65535 : Int) == x) = false := by simp; omega
      go_wp2_with (first
        | (at_builtin; refine wpList_append_own_at _ rfl (.tmp 13) (.tmp 29) 41 rfl w.heap.size 5 i0 (.int .u8 0) 1 1 Tryz.underlying41 hi hz0 hz1 hz2 rfl (by decide) (.slice vo m vc) m (bcs L) rfl (((Bw.refl wr).alloc _).own HO.out) ⟨wr.heap.size, 0, none⟩ 5 5 [.int .u8 0, .int .u8 255, .int .u8 255, .int .u8 0, .int .u8 0] rfl rfl (cells_new wr 5 #[.int .u8 0, .int .u8 255, .int .u8 255, .int .u8 0, .int .u8 0]) (by intro u hu; simp at hu; rcases hu with rfl | rfl | rfl | rfl | rfl <;> rfl) (by unfold maxLen; omega) (by omega) (by simp only [World.size_alloc]; omega) ?_; intro v5 w5 hown5 hgrow5 _ _; obtain ⟨vo5, vc5, rfl⟩ := own_slice hown5; have HO5 := hid hown5; have HG5 := hid hgrow5; clear hown5 hgrow5)
        | (at_builtin; refine wpList_app_str rfl (.tmp 31) (.tmp 34) 41 9 rfl Tryz.underlying41 Tryz.underlying9 hi hz0 hz1 hz2 (.slice vo5 (m + 5) vc5) (m + 5) _ rfl (own_down HO5.out (Nat.zero_le _)) _ rfl (by have h1 := HTS.out; have h2 := HX.out; simp; omega) ?_; intro v6 w6 hown6 hgrow6 hblk6; have HO6 := hid hown6; have HG6 := hid hgrow6; have HK6 := hid hblk6; clear hown6 hgrow6 hblk6))
      have hBA : Bw w (wr.alloc (.cells #[.int .u8 0, .int .u8 255, .int .u8 255, .int .u8 0, .int .u8 0] 5)) := HBW.out.alloc _
      have hB5 : Bw w w5 := Below.trans hBA (own_grownJ HO.out HG5.out (by simp only [World.size_alloc]; omega))
      have hB6 : Bw w w6 := Below.trans hB5 (own_grownJ HO5.out HG6.out hB5.size)
      have hxx := HX.out
      have hO := own_lift HO6.out (B := w.heap.size) fun b hb => by
        rcases HK6.out with h | h
        · exact own_ge HO5.out (h ▸ hb)
        · exact Nat.le_trans hB5.size (h b hb)
      have e2 : (t.data.toList.take 65535).length = 65535 := by rw [List.length_take, size_list]; omega
      have e6 : bcs (blkB false (t.data.toList.take 65535)) = [.int .u8 0, .int .u8 255, .int .u8 255, .int .u8 0, .int .u8 0] ++ bcs (t.data.toList.take 65535) := blk5i false 65535 (by decide) _ e2
      have hz : (t.extract 0 65535).size = 65535 := by simp; omega
      rw [strCells_bcs, ext_take, List.append_assoc, ← e6, ← bcs_app, hz, Nat.add_assoc] at hO
      have hln : (L ++ blkB false (t.data.toList.take 65535)).length = m + (5 + 65535) := by rw [List.length_append, blkB_len, e2, HM.out]
      refine ⟨⟨L ++ blkB false (t.data.toList.take 65535), t.extract 65535 t.size, rfl, ?_, ?_, by rw [hln]; exact hO, hB6⟩, ?_⟩
      · rw [ext_drop, ← HL.out, stoL_more (c := t.data.toList) (by rw [size_list]; omega), List.append_assoc]
      · have := HTS.out
        simp
        omega
      · show (t.extract 65535 t.size).size < t.size
        simp
        omega
end Go.Proofs.YtkmbgkcpohchhaaGreatDoor

/- What ReadAt of the document's source returns, and what it leaves (no step is left). -/
import Derived.Test.YteclomkhienhiaaSrxC
namespace Go.Proofs.Yteclomkhienhiaa
open Go.RowKit Go.Conc
set_option linter.unusedVariables false
set_option linter.unusedSimpArgs false
set_option maxRecDepth 100000 in
set_option maxHeartbeats 2000000 in
theorem rx_nil_farz (F : Nat → Prop) (g : Nat) (s : ByteArray) (hs : s.size ≤ 140737488351232) (sp : List (Nat × Nat)) (hsp : sp.length ≤ 1000000000) (p q : Nat) (hq : q ≤ 1048576) (hp63 : p ≤ 9223372036854775807) (hp : s.size ≤ p) (hq0 : q ≤ 0)  (ao : Option Addr) (cap : Nat) (rd : Value) (w : World) (hB : SrxB w g s ao cap rd [] sp) (h1 : F g) (h2 : ∀ b, rd.ownBlock = some b → F b) (h3 : ∀ b off, ao = some ⟨b, off, none⟩ → F b) (h4 : ∀ i, F i → i < w.heap.size) :
    Calls Try.prog 15 #[.pointer (some ⟨g, 0, none⟩), .int .i64 p, .int .i64 q] w (RxPost F g s (⟨#[]⟩, 0, []) sp w) := by
  obtain ⟨i0, hi, hz0, hz1, hz2⟩ := info_parts spanInfo
  have hask := asks_any p q w
  rw [show askB p q = true from decide_eq_true ⟨by omega, by omega, by omega⟩] at hask
  have HA := hid hask
  clear hask
  have hgl := hB.blk.lt
  have d0 : w.cell? ⟨g, 0, none⟩ = some (.string s) := hB.blk.cell 0
  have d2 : w.cell? ⟨g, 2, none⟩ = some rd := hB.blk.cell 2
  have f1 := hB.blk.frozen 1
  have hgb : g ≠ w.heap.size := by omega
  have d1 : w.cell? ⟨g, 1, none⟩ = some (.slice ao 0 cap) := hB.blk.cell 1
  have hKW : Keeps (· = g) w (w.alloc (.cells #[.int .i64 0, .int .i64 0] 33)) := (Keeps.refl (· = g) w).alloc _
  have hBW : SrxB (w.alloc (.cells #[.int .i64 0, .int .i64 0] 33)) g s ao cap rd [] sp := hB.keep (F := fun _ => False) ((Keeps.refl _ w).alloc _) (fun h => h) (fun _ _ h => h) (fun _ _ _ h => h)
  have H2 := hid h2
  have H3 := hid (show ∀ b' off', ao = some ⟨b', off', none⟩ → F b' from h3)
  have H4 := hid h4
  have hWs : (w.alloc (.cells #[.int .i64 0, .int .i64 0] 33)).heap.size = w.heap.size + 1 := by simp [World.setCell]
  have HKW := hid hKW
  have HBW := hid hBW
  clear hB h2 h3 h4 hKW hBW
  go_enter Try.func15, Try.ntmps15
  go_wp2_with fail
  refine HA.out.mono ?_
  rintro e w' ⟨rfl, rfl⟩
  go_wp2
  all_goals go_returns
  all_goals exact rx_post rfl (rx_fin0 HBW.out HKW.out h1 H2.out H3.out H4.out) rfl
set_option maxRecDepth 100000 in
set_option maxHeartbeats 2000000 in
theorem rx_nil_far (F : Nat → Prop) (g : Nat) (s : ByteArray) (hs : s.size ≤ 140737488351232) (sp : List (Nat × Nat)) (hsp : sp.length ≤ 1000000000) (p q : Nat) (hq : q ≤ 1048576) (hp63 : p ≤ 9223372036854775807) (hp : s.size ≤ p) (hq0 : 0 < q)  (ao : Option Addr) (cap : Nat) (rd : Value) (w : World) (hB : SrxB w g s ao cap rd [] sp) (h1 : F g) (h2 : ∀ b, rd.ownBlock = some b → F b) (h3 : ∀ b off, ao = some ⟨b, off, none⟩ → F b) (h4 : ∀ i, F i → i < w.heap.size) :
    Calls Try.prog 15 #[.pointer (some ⟨g, 0, none⟩), .int .i64 p, .int .i64 q] w (RxPost F g s (⟨#[]⟩, 2, []) sp w) := by
  obtain ⟨i0, hi, hz0, hz1, hz2⟩ := info_parts spanInfo
  have hask := asks_any p q w
  rw [show askB p q = true from decide_eq_true ⟨by omega, by omega, by omega⟩] at hask
  have HA := hid hask
  clear hask
  have hgl := hB.blk.lt
  have d0 : w.cell? ⟨g, 0, none⟩ = some (.string s) := hB.blk.cell 0
  have d2 : w.cell? ⟨g, 2, none⟩ = some rd := hB.blk.cell 2
  have f1 := hB.blk.frozen 1
  have hgb : g ≠ w.heap.size := by omega
  have d1 : w.cell? ⟨g, 1, none⟩ = some (.slice ao 0 cap) := hB.blk.cell 1
  have hKW : Keeps (· = g) w (w.alloc (.cells #[.int .i64 0, .int .i64 0] 33)) := (Keeps.refl (· = g) w).alloc _
  have hBW : SrxB (w.alloc (.cells #[.int .i64 0, .int .i64 0] 33)) g s ao cap rd [] sp := hB.keep (F := fun _ => False) ((Keeps.refl _ w).alloc _) (fun h => h) (fun _ _ h => h) (fun _ _ _ h => h)
  have H2 := hid h2
  have H3 := hid (show ∀ b' off', ao = some ⟨b', off', none⟩ → F b' from h3)
  have H4 := hid h4
  have hWs : (w.alloc (.cells #[.int .i64 0, .int .i64 0] 33)).heap.size = w.heap.size + 1 := by simp [World.setCell]
  have HKW := hid hKW
  have HBW := hid hBW
  clear hB h2 h3 h4 hKW hBW
  go_enter Try.func15, Try.ntmps15
  go_wp2_with fail
  refine HA.out.mono ?_
  rintro e w' ⟨rfl, rfl⟩
  go_wp2
  all_goals go_returns
  all_goals exact rx_post rfl (rx_fin0 HBW.out HKW.out h1 H2.out H3.out H4.out) rfl
set_option maxRecDepth 100000 in
set_option maxHeartbeats 2000000 in
theorem rx_nil_wlt (F : Nat → Prop) (g : Nat) (s : ByteArray) (hs : s.size ≤ 140737488351232) (sp : List (Nat × Nat)) (hsp : sp.length ≤ 1000000000) (p q : Nat) (hq : q ≤ 1048576) (hp63 : p ≤ 9223372036854775807) (hp : p < s.size) (hl : s.size < p + q)  (ao : Option Addr) (cap : Nat) (rd : Value) (w : World) (hB : SrxB w g s ao cap rd [] sp) (h1 : F g) (h2 : ∀ b, rd.ownBlock = some b → F b) (h3 : ∀ b off, ao = some ⟨b, off, none⟩ → F b) (h4 : ∀ i, F i → i < w.heap.size) :
    Calls Try.prog 15 #[.pointer (some ⟨g, 0, none⟩), .int .i64 p, .int .i64 q] w (RxPost F g s ((s.extract p (p + (s.size - p))), 2, []) (sp ++ [(p, p + (s.size - p))]) w) := by
  obtain ⟨i0, hi, hz0, hz1, hz2⟩ := info_parts spanInfo
  have hask := asks_any p q w
  rw [show askB p q = true from decide_eq_true ⟨by omega, by omega, by omega⟩] at hask
  have HA := hid hask
  clear hask
  have hgl := hB.blk.lt
  have d0 : w.cell? ⟨g, 0, none⟩ = some (.string s) := hB.blk.cell 0
  have d2 : w.cell? ⟨g, 2, none⟩ = some rd := hB.blk.cell 2
  have f1 := hB.blk.frozen 1
  have hgb : g ≠ w.heap.size := by omega
  have d1 : w.cell? ⟨g, 1, none⟩ = some (.slice ao 0 cap) := hB.blk.cell 1
  have hKW : Keeps (· = g) w (w.alloc (.cells #[.int .i64 0, .int .i64 0] 33)) := (Keeps.refl (· = g) w).alloc _
  have hBW : SrxB (w.alloc (.cells #[.int .i64 0, .int .i64 0] 33)) g s ao cap rd [] sp := hB.keep (F := fun _ => False) ((Keeps.refl _ w).alloc _) (fun h => h) (fun _ _ h => h) (fun _ _ _ h => h)
  have H2 := hid h2
  have H3 := hid (show ∀ b' off', ao = some ⟨b', off', none⟩ → F b' from h3)
  have H4 := hid h4
  have hWs : (w.alloc (.cells #[.int .i64 0, .int .i64 0] 33)).heap.size = w.heap.size + 1 := by simp [World.setCell]
  have HKW := hid hKW
  have HBW := hid hBW
  clear hB h2 h3 h4 hKW hBW
  go_enter Try.func15, Try.ntmps15
  go_wp2_with fail
  refine HA.out.mono ?_
  rintro e w' ⟨rfl, rfl⟩
  obtain ⟨ro, rc, rfl⟩ := own_slice HBW.out.row
  go_wp2_with (at_builtin; (refine wpList_append_own_at _ rfl (.tmp 76) (.tmp 82) 39 rfl 0 45 i0 (.agg #[.int .i64 0, .int .i64 0]) 2 16 Try.underlying39 hi hz0 hz1 hz2 rfl (by decide) (.slice ro sp.length rc) sp.length (spanCells sp) rfl (own_keep HBW.out.row (fun b hb => Below.heap_alloc _ _ _ (own_lt HBW.out.row hb))) ⟨w.heap.size + 1, 0, none⟩ 1 1 [.int .i64 p, _] rfl rfl (two_at hWs _ _ _) (by intro u hu; simp at hu; rcases hu with rfl | rfl <;> rfl) (by unfold maxLen; omega) (by omega) (Nat.zero_le _) ?_; intro rd' w5 hown5 hgrow5 _ hblk5; obtain ⟨ro2, rc2, rfl⟩ := own_slice hown5; have hH5 : Has w5 g 41 #[.string s, .slice ao [].length cap, .slice ro sp.length rc] := (hgrow5.block g (by have := HBW.out.blk.lt; simp at this ⊢; omega) (fun e => HBW.out.ne e.symm)).trans (HBW.out.blk.alloc _); have y0 : w5.cell? ⟨g, 0, none⟩ = some (.string s) := hH5.cell 0; have y2 : w5.cell? ⟨g, 2, none⟩ = some (.slice ro sp.length rc) := hH5.cell 2; have z2 := hH5.frozen 2; have HG5 := hid hgrow5; have HO5 := hid hown5; have HBL := hid hblk5; clear hgrow5 hown5 hblk5 hH5))
  all_goals
    go_returns
    have hO5 := HO5.out
    rw [show ((p : Int) + ((s.size : Int) - p)) = ((p + (s.size - p) : Nat) : Int) by omega] at hO5
    exact rx_post rfl (rx_fin1 HBW.out HKW.out h1 H2.out H3.out H4.out HG5.out hO5 HBL.out) rfl
set_option maxRecDepth 100000 in
set_option maxHeartbeats 2000000 in
theorem rx_nil_wgez (F : Nat → Prop) (g : Nat) (s : ByteArray) (hs : s.size ≤ 140737488351232) (sp : List (Nat × Nat)) (hsp : sp.length ≤ 1000000000) (p q : Nat) (hq : q ≤ 1048576) (hp63 : p ≤ 9223372036854775807) (hp : p < s.size) (hl : p + q ≤ s.size) (hq0 : q ≤ 0)  (ao : Option Addr) (cap : Nat) (rd : Value) (w : World) (hB : SrxB w g s ao cap rd [] sp) (h1 : F g) (h2 : ∀ b, rd.ownBlock = some b → F b) (h3 : ∀ b off, ao = some ⟨b, off, none⟩ → F b) (h4 : ∀ i, F i → i < w.heap.size) :
    Calls Try.prog 15 #[.pointer (some ⟨g, 0, none⟩), .int .i64 p, .int .i64 q] w (RxPost F g s (⟨#[]⟩, 0, []) sp w) := by
  obtain ⟨i0, hi, hz0, hz1, hz2⟩ := info_parts spanInfo
  have hask := asks_any p q w
  rw [show askB p q = true from decide_eq_true ⟨by omega, by omega, by omega⟩] at hask
  have HA := hid hask
  clear hask
  have hgl := hB.blk.lt
  have d0 : w.cell? ⟨g, 0, none⟩ = some (.string s) := hB.blk.cell 0
  have d2 : w.cell? ⟨g, 2, none⟩ = some rd := hB.blk.cell 2
  have f1 := hB.blk.frozen 1
  have hgb : g ≠ w.heap.size := by omega
  have d1 : w.cell? ⟨g, 1, none⟩ = some (.slice ao 0 cap) := hB.blk.cell 1
  have hKW : Keeps (· = g) w (w.alloc (.cells #[.int .i64 0, .int .i64 0] 33)) := (Keeps.refl (· = g) w).alloc _
  have hBW : SrxB (w.alloc (.cells #[.int .i64 0, .int .i64 0] 33)) g s ao cap rd [] sp := hB.keep (F := fun _ => False) ((Keeps.refl _ w).alloc _) (fun h => h) (fun _ _ h => h) (fun _ _ _ h => h)
  have H2 := hid h2
  have H3 := hid (show ∀ b' off', ao = some ⟨b', off', none⟩ → F b' from h3)
  have H4 := hid h4
  have hWs : (w.alloc (.cells #[.int .i64 0, .int .i64 0] 33)).heap.size = w.heap.size + 1 := by simp [World.setCell]
  have HKW := hid hKW
  have HBW := hid hBW
  clear hB h2 h3 h4 hKW hBW
  go_enter Try.func15, Try.ntmps15
  go_wp2_with fail
  refine HA.out.mono ?_
  rintro e w' ⟨rfl, rfl⟩
  go_wp2
  all_goals go_returns
  all_goals exact rx_post rfl (rx_fin0 HBW.out HKW.out h1 H2.out H3.out H4.out) rfl
set_option maxRecDepth 100000 in
set_option maxHeartbeats 2000000 in
theorem rx_nil_wge (F : Nat → Prop) (g : Nat) (s : ByteArray) (hs : s.size ≤ 140737488351232) (sp : List (Nat × Nat)) (hsp : sp.length ≤ 1000000000) (p q : Nat) (hq : q ≤ 1048576) (hp63 : p ≤ 9223372036854775807) (hp : p < s.size) (hl : p + q ≤ s.size) (hq0 : 0 < q)  (ao : Option Addr) (cap : Nat) (rd : Value) (w : World) (hB : SrxB w g s ao cap rd [] sp) (h1 : F g) (h2 : ∀ b, rd.ownBlock = some b → F b) (h3 : ∀ b off, ao = some ⟨b, off, none⟩ → F b) (h4 : ∀ i, F i → i < w.heap.size) :
    Calls Try.prog 15 #[.pointer (some ⟨g, 0, none⟩), .int .i64 p, .int .i64 q] w (RxPost F g s ((s.extract p (p + q)), 0, []) (sp ++ [(p, p + q)]) w) := by
  obtain ⟨i0, hi, hz0, hz1, hz2⟩ := info_parts spanInfo
  have hask := asks_any p q w
  rw [show askB p q = true from decide_eq_true ⟨by omega, by omega, by omega⟩] at hask
  have HA := hid hask
  clear hask
  have hgl := hB.blk.lt
  have d0 : w.cell? ⟨g, 0, none⟩ = some (.string s) := hB.blk.cell 0
  have d2 : w.cell? ⟨g, 2, none⟩ = some rd := hB.blk.cell 2
  have f1 := hB.blk.frozen 1
  have hgb : g ≠ w.heap.size := by omega
  have d1 : w.cell? ⟨g, 1, none⟩ = some (.slice ao 0 cap) := hB.blk.cell 1
  have hKW : Keeps (· = g) w (w.alloc (.cells #[.int .i64 0, .int .i64 0] 33)) := (Keeps.refl (· = g) w).alloc _
  have hBW : SrxB (w.alloc (.cells #[.int .i64 0, .int .i64 0] 33)) g s ao cap rd [] sp := hB.keep (F := fun _ => False) ((Keeps.refl _ w).alloc _) (fun h => h) (fun _ _ h => h) (fun _ _ _ h => h)
  have H2 := hid h2
  have H3 := hid (show ∀ b' off', ao = some ⟨b', off', none⟩ → F b' from h3)
  have H4 := hid h4
  have hWs : (w.alloc (.cells #[.int .i64 0, .int .i64 0] 33)).heap.size = w.heap.size + 1 := by simp [World.setCell]
  have HKW := hid hKW
  have HBW := hid hBW
  clear hB h2 h3 h4 hKW hBW
  go_enter Try.func15, Try.ntmps15
  go_wp2_with fail
  refine HA.out.mono ?_
  rintro e w' ⟨rfl, rfl⟩
  obtain ⟨ro, rc, rfl⟩ := own_slice HBW.out.row
  go_wp2_with (at_builtin; (refine wpList_append_own_at _ rfl (.tmp 76) (.tmp 82) 39 rfl 0 45 i0 (.agg #[.int .i64 0, .int .i64 0]) 2 16 Try.underlying39 hi hz0 hz1 hz2 rfl (by decide) (.slice ro sp.length rc) sp.length (spanCells sp) rfl (own_keep HBW.out.row (fun b hb => Below.heap_alloc _ _ _ (own_lt HBW.out.row hb))) ⟨w.heap.size + 1, 0, none⟩ 1 1 [.int .i64 p, _] rfl rfl (two_at hWs _ _ _) (by intro u hu; simp at hu; rcases hu with rfl | rfl <;> rfl) (by unfold maxLen; omega) (by omega) (Nat.zero_le _) ?_; intro rd' w5 hown5 hgrow5 _ hblk5; obtain ⟨ro2, rc2, rfl⟩ := own_slice hown5; have hH5 : Has w5 g 41 #[.string s, .slice ao [].length cap, .slice ro sp.length rc] := (hgrow5.block g (by have := HBW.out.blk.lt; simp at this ⊢; omega) (fun e => HBW.out.ne e.symm)).trans (HBW.out.blk.alloc _); have y0 : w5.cell? ⟨g, 0, none⟩ = some (.string s) := hH5.cell 0; have y2 : w5.cell? ⟨g, 2, none⟩ = some (.slice ro sp.length rc) := hH5.cell 2; have z2 := hH5.frozen 2; have HG5 := hid hgrow5; have HO5 := hid hown5; have HBL := hid hblk5; clear hgrow5 hown5 hblk5 hH5))
  all_goals
    go_returns
    have hO5 := HO5.out
    rw [show ((p : Int) + q) = ((p + q : Nat) : Int) by omega] at hO5
    exact rx_post rfl (rx_fin1 HBW.out HKW.out h1 H2.out H3.out H4.out HG5.out hO5 HBL.out) rfl
end Go.Proofs.Yteclomkhienhiaa

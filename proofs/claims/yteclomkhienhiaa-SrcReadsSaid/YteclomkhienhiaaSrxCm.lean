/- What ReadAt of the document's source returns, and what it leaves (a step, and room behind it). -/
import Derived.Test.YteclomkhienhiaaSrxC
namespace Go.Proofs.Yteclomkhienhiaa
open Go.RowKit Go.Conc
set_option linter.unusedVariables false
set_option linter.unusedSimpArgs false
set_option maxRecDepth 100000 in
set_option maxHeartbeats 2000000 in
theorem rx_more_fault (F : Nat → Prop) (g : Nat) (s : ByteArray) (hs : s.size ≤ 140737488351232) (x0 : Int) (x1 : Nat) (rest : List (Int × Int)) (sp : List (Nat × Nat)) (hsp : sp.length ≤ 1000000000) (p q : Nat) (hq : q ≤ 1048576) (hp63 : p ≤ 9223372036854775807) (t2 : (x0 == 2) = true) (ao : Option Addr) (cap : Nat) (hcap : 1 < cap) (rd : Value) (w : World) (hB : SrxB w g s ao cap rd ((x0, (x1 : Int)) :: rest) sp) (h1 : F g) (h2 : ∀ b, rd.ownBlock = some b → F b) (h3 : ∀ b off, ao = some ⟨b, off, none⟩ → F b) (h4 : ∀ i, F i → i < w.heap.size) :
    Calls Try.prog 15 #[.pointer (some ⟨g, 0, none⟩), .int .i64 p, .int .i64 q] w (RxPost F g s (⟨#[]⟩, 7, rest) sp w) := by
  obtain ⟨i0, hi, hz0, hz1, hz2⟩ := info_parts spanInfo
  have hask := asks_any p q w
  rw [show askB p q = true from decide_eq_true ⟨by omega, by omega, by omega⟩] at hask
  have HA := hid hask
  clear hask
  have hgl := hB.blk.lt
  have d0 : w.cell? ⟨g, 0, none⟩ = some (.string s) := hB.blk.cell 0
  have d2 : w.cell? ⟨g, 2, none⟩ = some rd := hB.blk.cell 2
  have f1 := hB.blk.frozen 1
  have hgb : g ≠ w.heap.size := by omega
  obtain ⟨b, off, rfl, hbl, c0, c1⟩ := hB.st 0 (by simp)
  have c0 : w.cell? ⟨b, off, none⟩ = some (.int .i64 x0) := by simpa using c0
  have c1 : w.cell? ⟨b, off + 1, none⟩ = some (.int .i64 x1) := by simpa using c1
  have d1 : w.cell? ⟨g, 1, none⟩ = some (.slice (some ⟨b, off, none⟩) (rest.length + 1) cap) := hB.blk.cell 1
  obtain ⟨hbg, hbr, _⟩ := hB.apart b off rfl
  have hKW : Keeps (· = g) w ((w.setCell ⟨g, 1, none⟩ (.slice (some ⟨b, off + 2, none⟩) rest.length (cap - 1))).alloc (.cells #[.int .i64 x0, .int .i64 x1] 33)) := (Keeps.of_setCell (F := (· = g)) (p := ⟨g, 1, none⟩) rfl _).alloc _
  have hKW' : Keeps (· = g) w (w.setCell ⟨g, 1, none⟩ (.slice (some (⟨b, off + 2, none⟩ : Addr)) rest.length (cap - 1))) := Keeps.of_setCell (F := (· = g)) (p := ⟨g, 1, none⟩) rfl _
  have hBW : SrxB ((w.setCell ⟨g, 1, none⟩ (.slice (some ⟨b, off + 2, none⟩) rest.length (cap - 1))).alloc (.cells #[.int .i64 x0, .int .i64 x1] 33)) g s (some (⟨b, off + 2, none⟩ : Addr)) (cap - 1) rd rest sp := by
    refine ⟨Has.alloc (by simpa using hB.blk.put 1 (.slice (some (⟨b, off + 2, none⟩ : Addr)) rest.length (cap - 1))) _, fun i hi => by
      obtain ⟨b', off', e, hl, k0, k1⟩ := hB.st (i + 1) (by simpa using hi)
      have e1 := Option.some.inj e
      injection e1 with e1 e2
      subst e1 e2
      have hbb := hKW.block b hbl (fun e => hbg e)
      refine ⟨b, off + 2, rfl, Nat.lt_of_lt_of_le hbl hKW.size, ?_, ?_⟩
      · rw [show off + 2 + i * 2 = off + (i + 1) * 2 by omega]; exact (World.cell?_of_block hbb).trans k0
      · rw [show off + 2 + i * 2 + 1 = off + (i + 1) * 2 + 1 by omega]; exact (World.cell?_of_block hbb).trans k1, own_keep hB.row (fun b' hb => hKW.block b' (own_lt hB.row hb) (fun e => hB.ne (by rw [hb, e]))), by have := hB.cp; simp at this; omega, fun b' off' e => ?_⟩
    have e1 := Option.some.inj e
    injection e1 with e1 _
    subst e1
    exact ⟨hbg, hbr, Nat.lt_of_lt_of_le hbl hKW.size⟩
  have H2 := hid h2
  have H3 := hid (show ∀ b' off', (some (⟨b, off + 2, none⟩ : Addr)) = some ⟨b', off', none⟩ → F b' from (fun b' off' e => by have e1 := Option.some.inj e; injection e1 with e1 _; subst e1; exact h3 _ _ rfl))
  have H4 := hid h4
  have hWs : ((w.setCell ⟨g, 1, none⟩ (.slice (some ⟨b, off + 2, none⟩) rest.length (cap - 1))).alloc (.cells #[.int .i64 x0, .int .i64 x1] 33)).heap.size = w.heap.size + 1 := by simp [World.setCell]
  have HKW := hid hKW
  have HBW := hid hBW
  clear hB h2 h3 h4 hKW hBW hKW'
  go_enter Try.func15, Try.ntmps15
  go_wp2_with fail
  refine HA.out.mono ?_
  rintro e w' ⟨rfl, rfl⟩
  go_wp2
  all_goals go_returns
  all_goals exact rx_post rfl (rx_fin0 HBW.out HKW.out h1 H2.out H3.out H4.out) rfl
set_option maxRecDepth 100000 in
set_option maxHeartbeats 2000000 in
theorem rx_more_farz (F : Nat → Prop) (g : Nat) (s : ByteArray) (hs : s.size ≤ 140737488351232) (x0 : Int) (x1 : Nat) (rest : List (Int × Int)) (sp : List (Nat × Nat)) (hsp : sp.length ≤ 1000000000) (p q : Nat) (hq : q ≤ 1048576) (hp63 : p ≤ 9223372036854775807) (t2 : (x0 == 2) = false) (hp : s.size ≤ p) (hq0 : q ≤ 0) (hw : Hid ((x0 == 1) = false ∨ ((x0 == 1) = true ∧ 0 ≤ x1))) (ao : Option Addr) (cap : Nat) (hcap : 1 < cap) (rd : Value) (w : World) (hB : SrxB w g s ao cap rd ((x0, (x1 : Int)) :: rest) sp) (h1 : F g) (h2 : ∀ b, rd.ownBlock = some b → F b) (h3 : ∀ b off, ao = some ⟨b, off, none⟩ → F b) (h4 : ∀ i, F i → i < w.heap.size) :
    Calls Try.prog 15 #[.pointer (some ⟨g, 0, none⟩), .int .i64 p, .int .i64 q] w (RxPost F g s (⟨#[]⟩, 0, rest) sp w) := by
  obtain ⟨i0, hi, hz0, hz1, hz2⟩ := info_parts spanInfo
  have hask := asks_any p q w
  rw [show askB p q = true from decide_eq_true ⟨by omega, by omega, by omega⟩] at hask
  have HA := hid hask
  clear hask
  have hgl := hB.blk.lt
  have d0 : w.cell? ⟨g, 0, none⟩ = some (.string s) := hB.blk.cell 0
  have d2 : w.cell? ⟨g, 2, none⟩ = some rd := hB.blk.cell 2
  have f1 := hB.blk.frozen 1
  have hgb : g ≠ w.heap.size := by omega
  obtain ⟨b, off, rfl, hbl, c0, c1⟩ := hB.st 0 (by simp)
  have c0 : w.cell? ⟨b, off, none⟩ = some (.int .i64 x0) := by simpa using c0
  have c1 : w.cell? ⟨b, off + 1, none⟩ = some (.int .i64 x1) := by simpa using c1
  have d1 : w.cell? ⟨g, 1, none⟩ = some (.slice (some ⟨b, off, none⟩) (rest.length + 1) cap) := hB.blk.cell 1
  obtain ⟨hbg, hbr, _⟩ := hB.apart b off rfl
  have hKW : Keeps (· = g) w ((w.setCell ⟨g, 1, none⟩ (.slice (some ⟨b, off + 2, none⟩) rest.length (cap - 1))).alloc (.cells #[.int .i64 x0, .int .i64 x1] 33)) := (Keeps.of_setCell (F := (· = g)) (p := ⟨g, 1, none⟩) rfl _).alloc _
  have hKW' : Keeps (· = g) w (w.setCell ⟨g, 1, none⟩ (.slice (some (⟨b, off + 2, none⟩ : Addr)) rest.length (cap - 1))) := Keeps.of_setCell (F := (· = g)) (p := ⟨g, 1, none⟩) rfl _
  have hBW : SrxB ((w.setCell ⟨g, 1, none⟩ (.slice (some ⟨b, off + 2, none⟩) rest.length (cap - 1))).alloc (.cells #[.int .i64 x0, .int .i64 x1] 33)) g s (some (⟨b, off + 2, none⟩ : Addr)) (cap - 1) rd rest sp := by
    refine ⟨Has.alloc (by simpa using hB.blk.put 1 (.slice (some (⟨b, off + 2, none⟩ : Addr)) rest.length (cap - 1))) _, fun i hi => by
      obtain ⟨b', off', e, hl, k0, k1⟩ := hB.st (i + 1) (by simpa using hi)
      have e1 := Option.some.inj e
      injection e1 with e1 e2
      subst e1 e2
      have hbb := hKW.block b hbl (fun e => hbg e)
      refine ⟨b, off + 2, rfl, Nat.lt_of_lt_of_le hbl hKW.size, ?_, ?_⟩
      · rw [show off + 2 + i * 2 = off + (i + 1) * 2 by omega]; exact (World.cell?_of_block hbb).trans k0
      · rw [show off + 2 + i * 2 + 1 = off + (i + 1) * 2 + 1 by omega]; exact (World.cell?_of_block hbb).trans k1, own_keep hB.row (fun b' hb => hKW.block b' (own_lt hB.row hb) (fun e => hB.ne (by rw [hb, e]))), by have := hB.cp; simp at this; omega, fun b' off' e => ?_⟩
    have e1 := Option.some.inj e
    injection e1 with e1 _
    subst e1
    exact ⟨hbg, hbr, Nat.lt_of_lt_of_le hbl hKW.size⟩
  have H2 := hid h2
  have H3 := hid (show ∀ b' off', (some (⟨b, off + 2, none⟩ : Addr)) = some ⟨b', off', none⟩ → F b' from (fun b' off' e => by have e1 := Option.some.inj e; injection e1 with e1 _; subst e1; exact h3 _ _ rfl))
  have H4 := hid h4
  have hWs : ((w.setCell ⟨g, 1, none⟩ (.slice (some ⟨b, off + 2, none⟩) rest.length (cap - 1))).alloc (.cells #[.int .i64 x0, .int .i64 x1] 33)).heap.size = w.heap.size + 1 := by simp [World.setCell]
  have HKW := hid hKW
  have HBW := hid hBW
  clear hB h2 h3 h4 hKW hBW hKW'
  rcases hw.out with t1 | ⟨t1, t3⟩
  all_goals
    go_enter Try.func15, Try.ntmps15
    go_wp2_with fail
    refine HA.out.mono ?_
    rintro e w' ⟨rfl, rfl⟩
    go_wp2
    all_goals go_returns
    all_goals exact rx_post rfl (rx_fin0 HBW.out HKW.out h1 H2.out H3.out H4.out) rfl
set_option maxRecDepth 100000 in
set_option maxHeartbeats 2000000 in
theorem rx_more_far (F : Nat → Prop) (g : Nat) (s : ByteArray) (hs : s.size ≤ 140737488351232) (x0 : Int) (x1 : Nat) (rest : List (Int × Int)) (sp : List (Nat × Nat)) (hsp : sp.length ≤ 1000000000) (p q : Nat) (hq : q ≤ 1048576) (hp63 : p ≤ 9223372036854775807) (t2 : (x0 == 2) = false) (hp : s.size ≤ p) (hq0 : 0 < q) (hw : Hid ((x0 == 1) = false ∨ ((x0 == 1) = true ∧ 0 ≤ x1))) (ao : Option Addr) (cap : Nat) (hcap : 1 < cap) (rd : Value) (w : World) (hB : SrxB w g s ao cap rd ((x0, (x1 : Int)) :: rest) sp) (h1 : F g) (h2 : ∀ b, rd.ownBlock = some b → F b) (h3 : ∀ b off, ao = some ⟨b, off, none⟩ → F b) (h4 : ∀ i, F i → i < w.heap.size) :
    Calls Try.prog 15 #[.pointer (some ⟨g, 0, none⟩), .int .i64 p, .int .i64 q] w (RxPost F g s (⟨#[]⟩, 2, rest) sp w) := by
  obtain ⟨i0, hi, hz0, hz1, hz2⟩ := info_parts spanInfo
  have hask := asks_any p q w
  rw [show askB p q = true from decide_eq_true ⟨by omega, by omega, by omega⟩] at hask
  have HA := hid hask
  clear hask
  have hgl := hB.blk.lt
  have d0 : w.cell? ⟨g, 0, none⟩ = some (.string s) := hB.blk.cell 0
  have d2 : w.cell? ⟨g, 2, none⟩ = some rd := hB.blk.cell 2
  have f1 := hB.blk.frozen 1
  have hgb : g ≠ w.heap.size := by omega
  obtain ⟨b, off, rfl, hbl, c0, c1⟩ := hB.st 0 (by simp)
  have c0 : w.cell? ⟨b, off, none⟩ = some (.int .i64 x0) := by simpa using c0
  have c1 : w.cell? ⟨b, off + 1, none⟩ = some (.int .i64 x1) := by simpa using c1
  have d1 : w.cell? ⟨g, 1, none⟩ = some (.slice (some ⟨b, off, none⟩) (rest.length + 1) cap) := hB.blk.cell 1
  obtain ⟨hbg, hbr, _⟩ := hB.apart b off rfl
  have hKW : Keeps (· = g) w ((w.setCell ⟨g, 1, none⟩ (.slice (some ⟨b, off + 2, none⟩) rest.length (cap - 1))).alloc (.cells #[.int .i64 x0, .int .i64 x1] 33)) := (Keeps.of_setCell (F := (· = g)) (p := ⟨g, 1, none⟩) rfl _).alloc _
  have hKW' : Keeps (· = g) w (w.setCell ⟨g, 1, none⟩ (.slice (some (⟨b, off + 2, none⟩ : Addr)) rest.length (cap - 1))) := Keeps.of_setCell (F := (· = g)) (p := ⟨g, 1, none⟩) rfl _
  have hBW : SrxB ((w.setCell ⟨g, 1, none⟩ (.slice (some ⟨b, off + 2, none⟩) rest.length (cap - 1))).alloc (.cells #[.int .i64 x0, .int .i64 x1] 33)) g s (some (⟨b, off + 2, none⟩ : Addr)) (cap - 1) rd rest sp := by
    refine ⟨Has.alloc (by simpa using hB.blk.put 1 (.slice (some (⟨b, off + 2, none⟩ : Addr)) rest.length (cap - 1))) _, fun i hi => by
      obtain ⟨b', off', e, hl, k0, k1⟩ := hB.st (i + 1) (by simpa using hi)
      have e1 := Option.some.inj e
      injection e1 with e1 e2
      subst e1 e2
      have hbb := hKW.block b hbl (fun e => hbg e)
      refine ⟨b, off + 2, rfl, Nat.lt_of_lt_of_le hbl hKW.size, ?_, ?_⟩
      · rw [show off + 2 + i * 2 = off + (i + 1) * 2 by omega]; exact (World.cell?_of_block hbb).trans k0
      · rw [show off + 2 + i * 2 + 1 = off + (i + 1) * 2 + 1 by omega]; exact (World.cell?_of_block hbb).trans k1, own_keep hB.row (fun b' hb => hKW.block b' (own_lt hB.row hb) (fun e => hB.ne (by rw [hb, e]))), by have := hB.cp; simp at this; omega, fun b' off' e => ?_⟩
    have e1 := Option.some.inj e
    injection e1 with e1 _
    subst e1
    exact ⟨hbg, hbr, Nat.lt_of_lt_of_le hbl hKW.size⟩
  have H2 := hid h2
  have H3 := hid (show ∀ b' off', (some (⟨b, off + 2, none⟩ : Addr)) = some ⟨b', off', none⟩ → F b' from (fun b' off' e => by have e1 := Option.some.inj e; injection e1 with e1 _; subst e1; exact h3 _ _ rfl))
  have H4 := hid h4
  have hWs : ((w.setCell ⟨g, 1, none⟩ (.slice (some ⟨b, off + 2, none⟩) rest.length (cap - 1))).alloc (.cells #[.int .i64 x0, .int .i64 x1] 33)).heap.size = w.heap.size + 1 := by simp [World.setCell]
  have HKW := hid hKW
  have HBW := hid hBW
  clear hB h2 h3 h4 hKW hBW hKW'
  rcases hw.out with t1 | ⟨t1, t3⟩
  all_goals
    go_enter Try.func15, Try.ntmps15
    go_wp2_with fail
    refine HA.out.mono ?_
    rintro e w' ⟨rfl, rfl⟩
    go_wp2
    all_goals go_returns
    all_goals exact rx_post rfl (rx_fin0 HBW.out HKW.out h1 H2.out H3.out H4.out) rfl
set_option maxRecDepth 100000 in
set_option maxHeartbeats 2000000 in
theorem rx_more_sz (F : Nat → Prop) (g : Nat) (s : ByteArray) (hs : s.size ≤ 140737488351232) (x0 : Int) (x1 : Nat) (rest : List (Int × Int)) (sp : List (Nat × Nat)) (hsp : sp.length ≤ 1000000000) (p q : Nat) (hq : q ≤ 1048576) (hp63 : p ≤ 9223372036854775807) (t2 : (x0 == 2) = false) (hp : p < s.size) (t1 : (x0 == 1) = true) (hx1 : x1 ≤ 0) (hor : (s.size < p + q ∨ 0 < q)) (ao : Option Addr) (cap : Nat) (hcap : 1 < cap) (rd : Value) (w : World) (hB : SrxB w g s ao cap rd ((x0, (x1 : Int)) :: rest) sp) (h1 : F g) (h2 : ∀ b, rd.ownBlock = some b → F b) (h3 : ∀ b off, ao = some ⟨b, off, none⟩ → F b) (h4 : ∀ i, F i → i < w.heap.size) :
    Calls Try.prog 15 #[.pointer (some ⟨g, 0, none⟩), .int .i64 p, .int .i64 q] w (RxPost F g s (⟨#[]⟩, 0, rest) sp w) := by
  obtain ⟨i0, hi, hz0, hz1, hz2⟩ := info_parts spanInfo
  have hask := asks_any p q w
  rw [show askB p q = true from decide_eq_true ⟨by omega, by omega, by omega⟩] at hask
  have HA := hid hask
  clear hask
  have hgl := hB.blk.lt
  have d0 : w.cell? ⟨g, 0, none⟩ = some (.string s) := hB.blk.cell 0
  have d2 : w.cell? ⟨g, 2, none⟩ = some rd := hB.blk.cell 2
  have f1 := hB.blk.frozen 1
  have hgb : g ≠ w.heap.size := by omega
  obtain ⟨b, off, rfl, hbl, c0, c1⟩ := hB.st 0 (by simp)
  have c0 : w.cell? ⟨b, off, none⟩ = some (.int .i64 x0) := by simpa using c0
  have c1 : w.cell? ⟨b, off + 1, none⟩ = some (.int .i64 x1) := by simpa using c1
  have d1 : w.cell? ⟨g, 1, none⟩ = some (.slice (some ⟨b, off, none⟩) (rest.length + 1) cap) := hB.blk.cell 1
  obtain ⟨hbg, hbr, _⟩ := hB.apart b off rfl
  have hKW : Keeps (· = g) w ((w.setCell ⟨g, 1, none⟩ (.slice (some ⟨b, off + 2, none⟩) rest.length (cap - 1))).alloc (.cells #[.int .i64 x0, .int .i64 x1] 33)) := (Keeps.of_setCell (F := (· = g)) (p := ⟨g, 1, none⟩) rfl _).alloc _
  have hKW' : Keeps (· = g) w (w.setCell ⟨g, 1, none⟩ (.slice (some (⟨b, off + 2, none⟩ : Addr)) rest.length (cap - 1))) := Keeps.of_setCell (F := (· = g)) (p := ⟨g, 1, none⟩) rfl _
  have hBW : SrxB ((w.setCell ⟨g, 1, none⟩ (.slice (some ⟨b, off + 2, none⟩) rest.length (cap - 1))).alloc (.cells #[.int .i64 x0, .int .i64 x1] 33)) g s (some (⟨b, off + 2, none⟩ : Addr)) (cap - 1) rd rest sp := by
    refine ⟨Has.alloc (by simpa using hB.blk.put 1 (.slice (some (⟨b, off + 2, none⟩ : Addr)) rest.length (cap - 1))) _, fun i hi => by
      obtain ⟨b', off', e, hl, k0, k1⟩ := hB.st (i + 1) (by simpa using hi)
      have e1 := Option.some.inj e
      injection e1 with e1 e2
      subst e1 e2
      have hbb := hKW.block b hbl (fun e => hbg e)
      refine ⟨b, off + 2, rfl, Nat.lt_of_lt_of_le hbl hKW.size, ?_, ?_⟩
      · rw [show off + 2 + i * 2 = off + (i + 1) * 2 by omega]; exact (World.cell?_of_block hbb).trans k0
      · rw [show off + 2 + i * 2 + 1 = off + (i + 1) * 2 + 1 by omega]; exact (World.cell?_of_block hbb).trans k1, own_keep hB.row (fun b' hb => hKW.block b' (own_lt hB.row hb) (fun e => hB.ne (by rw [hb, e]))), by have := hB.cp; simp at this; omega, fun b' off' e => ?_⟩
    have e1 := Option.some.inj e
    injection e1 with e1 _
    subst e1
    exact ⟨hbg, hbr, Nat.lt_of_lt_of_le hbl hKW.size⟩
  have H2 := hid h2
  have H3 := hid (show ∀ b' off', (some (⟨b, off + 2, none⟩ : Addr)) = some ⟨b', off', none⟩ → F b' from (fun b' off' e => by have e1 := Option.some.inj e; injection e1 with e1 _; subst e1; exact h3 _ _ rfl))
  have H4 := hid h4
  have hWs : ((w.setCell ⟨g, 1, none⟩ (.slice (some ⟨b, off + 2, none⟩) rest.length (cap - 1))).alloc (.cells #[.int .i64 x0, .int .i64 x1] 33)).heap.size = w.heap.size + 1 := by simp [World.setCell]
  have HKW := hid hKW
  have HBW := hid hBW
  clear hB h2 h3 h4 hKW hBW hKW'
  obtain rfl : x1 = 0 := by omega
  rcases hor with hor | hor
  all_goals
    go_enter Try.func15, Try.ntmps15
    go_wp2_with fail
    refine HA.out.mono ?_
    rintro e w' ⟨rfl, rfl⟩
    go_wp2
    all_goals go_returns
    all_goals exact rx_post rfl (rx_fin0 HBW.out HKW.out h1 H2.out H3.out H4.out) rfl
set_option maxRecDepth 100000 in
set_option maxHeartbeats 2000000 in
theorem rx_more_short (F : Nat → Prop) (g : Nat) (s : ByteArray) (hs : s.size ≤ 140737488351232) (x0 : Int) (x1 : Nat) (rest : List (Int × Int)) (sp : List (Nat × Nat)) (hsp : sp.length ≤ 1000000000) (p q : Nat) (hq : q ≤ 1048576) (hp63 : p ≤ 9223372036854775807) (t2 : (x0 == 2) = false) (hp : p < s.size) (t1 : (x0 == 1) = true) (hx1 : 0 < x1) (hxs : p + x1 < s.size) (hxq : x1 < q) (ao : Option Addr) (cap : Nat) (hcap : 1 < cap) (rd : Value) (w : World) (hB : SrxB w g s ao cap rd ((x0, (x1 : Int)) :: rest) sp) (h1 : F g) (h2 : ∀ b, rd.ownBlock = some b → F b) (h3 : ∀ b off, ao = some ⟨b, off, none⟩ → F b) (h4 : ∀ i, F i → i < w.heap.size) :
    Calls Try.prog 15 #[.pointer (some ⟨g, 0, none⟩), .int .i64 p, .int .i64 q] w (RxPost F g s ((s.extract p (p + x1)), 0, rest) (sp ++ [(p, p + x1)]) w) := by
  obtain ⟨i0, hi, hz0, hz1, hz2⟩ := info_parts spanInfo
  have hask := asks_any p q w
  rw [show askB p q = true from decide_eq_true ⟨by omega, by omega, by omega⟩] at hask
  have HA := hid hask
  clear hask
  have hgl := hB.blk.lt
  have d0 : w.cell? ⟨g, 0, none⟩ = some (.string s) := hB.blk.cell 0
  have d2 : w.cell? ⟨g, 2, none⟩ = some rd := hB.blk.cell 2
  have f1 := hB.blk.frozen 1
  have hgb : g ≠ w.heap.size := by omega
  obtain ⟨b, off, rfl, hbl, c0, c1⟩ := hB.st 0 (by simp)
  have c0 : w.cell? ⟨b, off, none⟩ = some (.int .i64 x0) := by simpa using c0
  have c1 : w.cell? ⟨b, off + 1, none⟩ = some (.int .i64 x1) := by simpa using c1
  have d1 : w.cell? ⟨g, 1, none⟩ = some (.slice (some ⟨b, off, none⟩) (rest.length + 1) cap) := hB.blk.cell 1
  obtain ⟨hbg, hbr, _⟩ := hB.apart b off rfl
  have hKW : Keeps (· = g) w ((w.setCell ⟨g, 1, none⟩ (.slice (some ⟨b, off + 2, none⟩) rest.length (cap - 1))).alloc (.cells #[.int .i64 x0, .int .i64 x1] 33)) := (Keeps.of_setCell (F := (· = g)) (p := ⟨g, 1, none⟩) rfl _).alloc _
  have hKW' : Keeps (· = g) w (w.setCell ⟨g, 1, none⟩ (.slice (some (⟨b, off + 2, none⟩ : Addr)) rest.length (cap - 1))) := Keeps.of_setCell (F := (· = g)) (p := ⟨g, 1, none⟩) rfl _
  have hBW : SrxB ((w.setCell ⟨g, 1, none⟩ (.slice (some ⟨b, off + 2, none⟩) rest.length (cap - 1))).alloc (.cells #[.int .i64 x0, .int .i64 x1] 33)) g s (some (⟨b, off + 2, none⟩ : Addr)) (cap - 1) rd rest sp := by
    refine ⟨Has.alloc (by simpa using hB.blk.put 1 (.slice (some (⟨b, off + 2, none⟩ : Addr)) rest.length (cap - 1))) _, fun i hi => by
      obtain ⟨b', off', e, hl, k0, k1⟩ := hB.st (i + 1) (by simpa using hi)
      have e1 := Option.some.inj e
      injection e1 with e1 e2
      subst e1 e2
      have hbb := hKW.block b hbl (fun e => hbg e)
      refine ⟨b, off + 2, rfl, Nat.lt_of_lt_of_le hbl hKW.size, ?_, ?_⟩
      · rw [show off + 2 + i * 2 = off + (i + 1) * 2 by omega]; exact (World.cell?_of_block hbb).trans k0
      · rw [show off + 2 + i * 2 + 1 = off + (i + 1) * 2 + 1 by omega]; exact (World.cell?_of_block hbb).trans k1, own_keep hB.row (fun b' hb => hKW.block b' (own_lt hB.row hb) (fun e => hB.ne (by rw [hb, e]))), by have := hB.cp; simp at this; omega, fun b' off' e => ?_⟩
    have e1 := Option.some.inj e
    injection e1 with e1 _
    subst e1
    exact ⟨hbg, hbr, Nat.lt_of_lt_of_le hbl hKW.size⟩
  have H2 := hid h2
  have H3 := hid (show ∀ b' off', (some (⟨b, off + 2, none⟩ : Addr)) = some ⟨b', off', none⟩ → F b' from (fun b' off' e => by have e1 := Option.some.inj e; injection e1 with e1 _; subst e1; exact h3 _ _ rfl))
  have H4 := hid h4
  have hWs : ((w.setCell ⟨g, 1, none⟩ (.slice (some ⟨b, off + 2, none⟩) rest.length (cap - 1))).alloc (.cells #[.int .i64 x0, .int .i64 x1] 33)).heap.size = w.heap.size + 1 := by simp [World.setCell]
  have HKW := hid hKW
  have HBW := hid hBW
  clear hB h2 h3 h4 hKW hBW hKW'
  go_enter Try.func15, Try.ntmps15
  go_wp2_with fail
  refine HA.out.mono ?_
  rintro e w' ⟨rfl, rfl⟩
  obtain ⟨ro, rc, rfl⟩ := own_slice HBW.out.row
  go_wp2_with (at_builtin; (refine wpList_append_own_at _ rfl (.tmp 76) (.tmp 82) 39 rfl 0 45 i0 (.agg #[.int .i64 0, .int .i64 0]) 2 16 Try.underlying39 hi hz0 hz1 hz2 rfl (by decide) (.slice ro sp.length rc) sp.length (spanCells sp) rfl (own_keep HBW.out.row (fun b hb => Below.heap_alloc _ _ _ (own_lt HBW.out.row hb))) ⟨w.heap.size + 1, 0, none⟩ 1 1 [.int .i64 p, _] rfl rfl (two_at hWs _ _ _) (by intro u hu; simp at hu; rcases hu with rfl | rfl <;> rfl) (by unfold maxLen; omega) (by omega) (Nat.zero_le _) ?_; intro rd' w5 hown5 hgrow5 _ hblk5; obtain ⟨ro2, rc2, rfl⟩ := own_slice hown5; have hH5 : Has w5 g 41 #[.string s, .slice (some (⟨b, off + 2, none⟩ : Addr)) rest.length (cap - 1), .slice ro sp.length rc] := (hgrow5.block g (by have := HBW.out.blk.lt; simp at this ⊢; omega) (fun e => HBW.out.ne e.symm)).trans (HBW.out.blk.alloc _); have y0 : w5.cell? ⟨g, 0, none⟩ = some (.string s) := hH5.cell 0; have y2 : w5.cell? ⟨g, 2, none⟩ = some (.slice ro sp.length rc) := hH5.cell 2; have z2 := hH5.frozen 2; have HG5 := hid hgrow5; have HO5 := hid hown5; have HBL := hid hblk5; clear hgrow5 hown5 hblk5 hH5))
  all_goals
    go_returns
    have hO5 := HO5.out
    rw [show ((p : Int) + x1) = ((p + x1 : Nat) : Int) by omega] at hO5
    exact rx_post rfl (rx_fin1 HBW.out HKW.out h1 H2.out H3.out H4.out HG5.out hO5 HBL.out) rfl
set_option maxRecDepth 100000 in
set_option maxHeartbeats 2000000 in
theorem rx_more_wlt (F : Nat → Prop) (g : Nat) (s : ByteArray) (hs : s.size ≤ 140737488351232) (x0 : Int) (x1 : Nat) (rest : List (Int × Int)) (sp : List (Nat × Nat)) (hsp : sp.length ≤ 1000000000) (p q : Nat) (hq : q ≤ 1048576) (hp63 : p ≤ 9223372036854775807) (t2 : (x0 == 2) = false) (hp : p < s.size) (hl : s.size < p + q) (hw : Hid ((x0 == 1) = false ∨ ((x0 == 1) = true ∧ s.size ≤ p + x1))) (ao : Option Addr) (cap : Nat) (hcap : 1 < cap) (rd : Value) (w : World) (hB : SrxB w g s ao cap rd ((x0, (x1 : Int)) :: rest) sp) (h1 : F g) (h2 : ∀ b, rd.ownBlock = some b → F b) (h3 : ∀ b off, ao = some ⟨b, off, none⟩ → F b) (h4 : ∀ i, F i → i < w.heap.size) :
    Calls Try.prog 15 #[.pointer (some ⟨g, 0, none⟩), .int .i64 p, .int .i64 q] w (RxPost F g s ((s.extract p (p + (s.size - p))), 2, rest) (sp ++ [(p, p + (s.size - p))]) w) := by
  obtain ⟨i0, hi, hz0, hz1, hz2⟩ := info_parts spanInfo
  have hask := asks_any p q w
  rw [show askB p q = true from decide_eq_true ⟨by omega, by omega, by omega⟩] at hask
  have HA := hid hask
  clear hask
  have hgl := hB.blk.lt
  have d0 : w.cell? ⟨g, 0, none⟩ = some (.string s) := hB.blk.cell 0
  have d2 : w.cell? ⟨g, 2, none⟩ = some rd := hB.blk.cell 2
  have f1 := hB.blk.frozen 1
  have hgb : g ≠ w.heap.size := by omega
  obtain ⟨b, off, rfl, hbl, c0, c1⟩ := hB.st 0 (by simp)
  have c0 : w.cell? ⟨b, off, none⟩ = some (.int .i64 x0) := by simpa using c0
  have c1 : w.cell? ⟨b, off + 1, none⟩ = some (.int .i64 x1) := by simpa using c1
  have d1 : w.cell? ⟨g, 1, none⟩ = some (.slice (some ⟨b, off, none⟩) (rest.length + 1) cap) := hB.blk.cell 1
  obtain ⟨hbg, hbr, _⟩ := hB.apart b off rfl
  have hKW : Keeps (· = g) w ((w.setCell ⟨g, 1, none⟩ (.slice (some ⟨b, off + 2, none⟩) rest.length (cap - 1))).alloc (.cells #[.int .i64 x0, .int .i64 x1] 33)) := (Keeps.of_setCell (F := (· = g)) (p := ⟨g, 1, none⟩) rfl _).alloc _
  have hKW' : Keeps (· = g) w (w.setCell ⟨g, 1, none⟩ (.slice (some (⟨b, off + 2, none⟩ : Addr)) rest.length (cap - 1))) := Keeps.of_setCell (F := (· = g)) (p := ⟨g, 1, none⟩) rfl _
  have hBW : SrxB ((w.setCell ⟨g, 1, none⟩ (.slice (some ⟨b, off + 2, none⟩) rest.length (cap - 1))).alloc (.cells #[.int .i64 x0, .int .i64 x1] 33)) g s (some (⟨b, off + 2, none⟩ : Addr)) (cap - 1) rd rest sp := by
    refine ⟨Has.alloc (by simpa using hB.blk.put 1 (.slice (some (⟨b, off + 2, none⟩ : Addr)) rest.length (cap - 1))) _, fun i hi => by
      obtain ⟨b', off', e, hl, k0, k1⟩ := hB.st (i + 1) (by simpa using hi)
      have e1 := Option.some.inj e
      injection e1 with e1 e2
      subst e1 e2
      have hbb := hKW.block b hbl (fun e => hbg e)
      refine ⟨b, off + 2, rfl, Nat.lt_of_lt_of_le hbl hKW.size, ?_, ?_⟩
      · rw [show off + 2 + i * 2 = off + (i + 1) * 2 by omega]; exact (World.cell?_of_block hbb).trans k0
      · rw [show off + 2 + i * 2 + 1 = off + (i + 1) * 2 + 1 by omega]; exact (World.cell?_of_block hbb).trans k1, own_keep hB.row (fun b' hb => hKW.block b' (own_lt hB.row hb) (fun e => hB.ne (by rw [hb, e]))), by have := hB.cp; simp at this; omega, fun b' off' e => ?_⟩
    have e1 := Option.some.inj e
    injection e1 with e1 _
    subst e1
    exact ⟨hbg, hbr, Nat.lt_of_lt_of_le hbl hKW.size⟩
  have H2 := hid h2
  have H3 := hid (show ∀ b' off', (some (⟨b, off + 2, none⟩ : Addr)) = some ⟨b', off', none⟩ → F b' from (fun b' off' e => by have e1 := Option.some.inj e; injection e1 with e1 _; subst e1; exact h3 _ _ rfl))
  have H4 := hid h4
  have hWs : ((w.setCell ⟨g, 1, none⟩ (.slice (some ⟨b, off + 2, none⟩) rest.length (cap - 1))).alloc (.cells #[.int .i64 x0, .int .i64 x1] 33)).heap.size = w.heap.size + 1 := by simp [World.setCell]
  have HKW := hid hKW
  have HBW := hid hBW
  clear hB h2 h3 h4 hKW hBW hKW'
  rcases hw.out with t1 | ⟨t1, t3⟩
  all_goals
    go_enter Try.func15, Try.ntmps15
    go_wp2_with fail
    refine HA.out.mono ?_
    rintro e w' ⟨rfl, rfl⟩
    obtain ⟨ro, rc, rfl⟩ := own_slice HBW.out.row
    go_wp2_with (at_builtin; (refine wpList_append_own_at _ rfl (.tmp 76) (.tmp 82) 39 rfl 0 45 i0 (.agg #[.int .i64 0, .int .i64 0]) 2 16 Try.underlying39 hi hz0 hz1 hz2 rfl (by decide) (.slice ro sp.length rc) sp.length (spanCells sp) rfl (own_keep HBW.out.row (fun b hb => Below.heap_alloc _ _ _ (own_lt HBW.out.row hb))) ⟨w.heap.size + 1, 0, none⟩ 1 1 [.int .i64 p, _] rfl rfl (two_at hWs _ _ _) (by intro u hu; simp at hu; rcases hu with rfl | rfl <;> rfl) (by unfold maxLen; omega) (by omega) (Nat.zero_le _) ?_; intro rd' w5 hown5 hgrow5 _ hblk5; obtain ⟨ro2, rc2, rfl⟩ := own_slice hown5; have hH5 : Has w5 g 41 #[.string s, .slice (some (⟨b, off + 2, none⟩ : Addr)) rest.length (cap - 1), .slice ro sp.length rc] := (hgrow5.block g (by have := HBW.out.blk.lt; simp at this ⊢; omega) (fun e => HBW.out.ne e.symm)).trans (HBW.out.blk.alloc _); have y0 : w5.cell? ⟨g, 0, none⟩ = some (.string s) := hH5.cell 0; have y2 : w5.cell? ⟨g, 2, none⟩ = some (.slice ro sp.length rc) := hH5.cell 2; have z2 := hH5.frozen 2; have HG5 := hid hgrow5; have HO5 := hid hown5; have HBL := hid hblk5; clear hgrow5 hown5 hblk5 hH5))
    all_goals
      go_returns
      have hO5 := HO5.out
      rw [show ((p : Int) + ((s.size : Int) - p)) = ((p + (s.size - p) : Nat) : Int) by omega] at hO5
      exact rx_post rfl (rx_fin1 HBW.out HKW.out h1 H2.out H3.out H4.out HG5.out hO5 HBL.out) rfl
set_option maxRecDepth 100000 in
set_option maxHeartbeats 2000000 in
theorem rx_more_wgez (F : Nat → Prop) (g : Nat) (s : ByteArray) (hs : s.size ≤ 140737488351232) (x0 : Int) (x1 : Nat) (rest : List (Int × Int)) (sp : List (Nat × Nat)) (hsp : sp.length ≤ 1000000000) (p q : Nat) (hq : q ≤ 1048576) (hp63 : p ≤ 9223372036854775807) (t2 : (x0 == 2) = false) (hp : p < s.size) (hl : p + q ≤ s.size) (hq0 : q ≤ 0) (hw : Hid ((x0 == 1) = false ∨ ((x0 == 1) = true ∧ q ≤ x1))) (ao : Option Addr) (cap : Nat) (hcap : 1 < cap) (rd : Value) (w : World) (hB : SrxB w g s ao cap rd ((x0, (x1 : Int)) :: rest) sp) (h1 : F g) (h2 : ∀ b, rd.ownBlock = some b → F b) (h3 : ∀ b off, ao = some ⟨b, off, none⟩ → F b) (h4 : ∀ i, F i → i < w.heap.size) :
    Calls Try.prog 15 #[.pointer (some ⟨g, 0, none⟩), .int .i64 p, .int .i64 q] w (RxPost F g s (⟨#[]⟩, 0, rest) sp w) := by
  obtain ⟨i0, hi, hz0, hz1, hz2⟩ := info_parts spanInfo
  have hask := asks_any p q w
  rw [show askB p q = true from decide_eq_true ⟨by omega, by omega, by omega⟩] at hask
  have HA := hid hask
  clear hask
  have hgl := hB.blk.lt
  have d0 : w.cell? ⟨g, 0, none⟩ = some (.string s) := hB.blk.cell 0
  have d2 : w.cell? ⟨g, 2, none⟩ = some rd := hB.blk.cell 2
  have f1 := hB.blk.frozen 1
  have hgb : g ≠ w.heap.size := by omega
  obtain ⟨b, off, rfl, hbl, c0, c1⟩ := hB.st 0 (by simp)
  have c0 : w.cell? ⟨b, off, none⟩ = some (.int .i64 x0) := by simpa using c0
  have c1 : w.cell? ⟨b, off + 1, none⟩ = some (.int .i64 x1) := by simpa using c1
  have d1 : w.cell? ⟨g, 1, none⟩ = some (.slice (some ⟨b, off, none⟩) (rest.length + 1) cap) := hB.blk.cell 1
  obtain ⟨hbg, hbr, _⟩ := hB.apart b off rfl
  have hKW : Keeps (· = g) w ((w.setCell ⟨g, 1, none⟩ (.slice (some ⟨b, off + 2, none⟩) rest.length (cap - 1))).alloc (.cells #[.int .i64 x0, .int .i64 x1] 33)) := (Keeps.of_setCell (F := (· = g)) (p := ⟨g, 1, none⟩) rfl _).alloc _
  have hKW' : Keeps (· = g) w (w.setCell ⟨g, 1, none⟩ (.slice (some (⟨b, off + 2, none⟩ : Addr)) rest.length (cap - 1))) := Keeps.of_setCell (F := (· = g)) (p := ⟨g, 1, none⟩) rfl _
  have hBW : SrxB ((w.setCell ⟨g, 1, none⟩ (.slice (some ⟨b, off + 2, none⟩) rest.length (cap - 1))).alloc (.cells #[.int .i64 x0, .int .i64 x1] 33)) g s (some (⟨b, off + 2, none⟩ : Addr)) (cap - 1) rd rest sp := by
    refine ⟨Has.alloc (by simpa using hB.blk.put 1 (.slice (some (⟨b, off + 2, none⟩ : Addr)) rest.length (cap - 1))) _, fun i hi => by
      obtain ⟨b', off', e, hl, k0, k1⟩ := hB.st (i + 1) (by simpa using hi)
      have e1 := Option.some.inj e
      injection e1 with e1 e2
      subst e1 e2
      have hbb := hKW.block b hbl (fun e => hbg e)
      refine ⟨b, off + 2, rfl, Nat.lt_of_lt_of_le hbl hKW.size, ?_, ?_⟩
      · rw [show off + 2 + i * 2 = off + (i + 1) * 2 by omega]; exact (World.cell?_of_block hbb).trans k0
      · rw [show off + 2 + i * 2 + 1 = off + (i + 1) * 2 + 1 by omega]; exact (World.cell?_of_block hbb).trans k1, own_keep hB.row (fun b' hb => hKW.block b' (own_lt hB.row hb) (fun e => hB.ne (by rw [hb, e]))), by have := hB.cp; simp at this; omega, fun b' off' e => ?_⟩
    have e1 := Option.some.inj e
    injection e1 with e1 _
    subst e1
    exact ⟨hbg, hbr, Nat.lt_of_lt_of_le hbl hKW.size⟩
  have H2 := hid h2
  have H3 := hid (show ∀ b' off', (some (⟨b, off + 2, none⟩ : Addr)) = some ⟨b', off', none⟩ → F b' from (fun b' off' e => by have e1 := Option.some.inj e; injection e1 with e1 _; subst e1; exact h3 _ _ rfl))
  have H4 := hid h4
  have hWs : ((w.setCell ⟨g, 1, none⟩ (.slice (some ⟨b, off + 2, none⟩) rest.length (cap - 1))).alloc (.cells #[.int .i64 x0, .int .i64 x1] 33)).heap.size = w.heap.size + 1 := by simp [World.setCell]
  have HKW := hid hKW
  have HBW := hid hBW
  clear hB h2 h3 h4 hKW hBW hKW'
  rcases hw.out with t1 | ⟨t1, t3⟩
  all_goals
    go_enter Try.func15, Try.ntmps15
    go_wp2_with fail
    refine HA.out.mono ?_
    rintro e w' ⟨rfl, rfl⟩
    go_wp2
    all_goals go_returns
    all_goals exact rx_post rfl (rx_fin0 HBW.out HKW.out h1 H2.out H3.out H4.out) rfl
set_option maxRecDepth 100000 in
set_option maxHeartbeats 2000000 in
theorem rx_more_wge (F : Nat → Prop) (g : Nat) (s : ByteArray) (hs : s.size ≤ 140737488351232) (x0 : Int) (x1 : Nat) (rest : List (Int × Int)) (sp : List (Nat × Nat)) (hsp : sp.length ≤ 1000000000) (p q : Nat) (hq : q ≤ 1048576) (hp63 : p ≤ 9223372036854775807) (t2 : (x0 == 2) = false) (hp : p < s.size) (hl : p + q ≤ s.size) (hq0 : 0 < q) (hw : Hid ((x0 == 1) = false ∨ ((x0 == 1) = true ∧ q ≤ x1))) (ao : Option Addr) (cap : Nat) (hcap : 1 < cap) (rd : Value) (w : World) (hB : SrxB w g s ao cap rd ((x0, (x1 : Int)) :: rest) sp) (h1 : F g) (h2 : ∀ b, rd.ownBlock = some b → F b) (h3 : ∀ b off, ao = some ⟨b, off, none⟩ → F b) (h4 : ∀ i, F i → i < w.heap.size) :
    Calls Try.prog 15 #[.pointer (some ⟨g, 0, none⟩), .int .i64 p, .int .i64 q] w (RxPost F g s ((s.extract p (p + q)), 0, rest) (sp ++ [(p, p + q)]) w) := by
  obtain ⟨i0, hi, hz0, hz1, hz2⟩ := info_parts spanInfo
  have hask := asks_any p q w
  rw [show askB p q = true from decide_eq_true ⟨by omega, by omega, by omega⟩] at hask
  have HA := hid hask
  clear hask
  have hgl := hB.blk.lt
  have d0 : w.cell? ⟨g, 0, none⟩ = some (.string s) := hB.blk.cell 0
  have d2 : w.cell? ⟨g, 2, none⟩ = some rd := hB.blk.cell 2
  have f1 := hB.blk.frozen 1
  have hgb : g ≠ w.heap.size := by omega
  obtain ⟨b, off, rfl, hbl, c0, c1⟩ := hB.st 0 (by simp)
  have c0 : w.cell? ⟨b, off, none⟩ = some (.int .i64 x0) := by simpa using c0
  have c1 : w.cell? ⟨b, off + 1, none⟩ = some (.int .i64 x1) := by simpa using c1
  have d1 : w.cell? ⟨g, 1, none⟩ = some (.slice (some ⟨b, off, none⟩) (rest.length + 1) cap) := hB.blk.cell 1
  obtain ⟨hbg, hbr, _⟩ := hB.apart b off rfl
  have hKW : Keeps (· = g) w ((w.setCell ⟨g, 1, none⟩ (.slice (some ⟨b, off + 2, none⟩) rest.length (cap - 1))).alloc (.cells #[.int .i64 x0, .int .i64 x1] 33)) := (Keeps.of_setCell (F := (· = g)) (p := ⟨g, 1, none⟩) rfl _).alloc _
  have hKW' : Keeps (· = g) w (w.setCell ⟨g, 1, none⟩ (.slice (some (⟨b, off + 2, none⟩ : Addr)) rest.length (cap - 1))) := Keeps.of_setCell (F := (· = g)) (p := ⟨g, 1, none⟩) rfl _
  have hBW : SrxB ((w.setCell ⟨g, 1, none⟩ (.slice (some ⟨b, off + 2, none⟩) rest.length (cap - 1))).alloc (.cells #[.int .i64 x0, .int .i64 x1] 33)) g s (some (⟨b, off + 2, none⟩ : Addr)) (cap - 1) rd rest sp := by
    refine ⟨Has.alloc (by simpa using hB.blk.put 1 (.slice (some (⟨b, off + 2, none⟩ : Addr)) rest.length (cap - 1))) _, fun i hi => by
      obtain ⟨b', off', e, hl, k0, k1⟩ := hB.st (i + 1) (by simpa using hi)
      have e1 := Option.some.inj e
      injection e1 with e1 e2
      subst e1 e2
      have hbb := hKW.block b hbl (fun e => hbg e)
      refine ⟨b, off + 2, rfl, Nat.lt_of_lt_of_le hbl hKW.size, ?_, ?_⟩
      · rw [show off + 2 + i * 2 = off + (i + 1) * 2 by omega]; exact (World.cell?_of_block hbb).trans k0
      · rw [show off + 2 + i * 2 + 1 = off + (i + 1) * 2 + 1 by omega]; exact (World.cell?_of_block hbb).trans k1, own_keep hB.row (fun b' hb => hKW.block b' (own_lt hB.row hb) (fun e => hB.ne (by rw [hb, e]))), by have := hB.cp; simp at this; omega, fun b' off' e => ?_⟩
    have e1 := Option.some.inj e
    injection e1 with e1 _
    subst e1
    exact ⟨hbg, hbr, Nat.lt_of_lt_of_le hbl hKW.size⟩
  have H2 := hid h2
  have H3 := hid (show ∀ b' off', (some (⟨b, off + 2, none⟩ : Addr)) = some ⟨b', off', none⟩ → F b' from (fun b' off' e => by have e1 := Option.some.inj e; injection e1 with e1 _; subst e1; exact h3 _ _ rfl))
  have H4 := hid h4
  have hWs : ((w.setCell ⟨g, 1, none⟩ (.slice (some ⟨b, off + 2, none⟩) rest.length (cap - 1))).alloc (.cells #[.int .i64 x0, .int .i64 x1] 33)).heap.size = w.heap.size + 1 := by simp [World.setCell]
  have HKW := hid hKW
  have HBW := hid hBW
  clear hB h2 h3 h4 hKW hBW hKW'
  rcases hw.out with t1 | ⟨t1, t3⟩
  all_goals
    go_enter Try.func15, Try.ntmps15
    go_wp2_with fail
    refine HA.out.mono ?_
    rintro e w' ⟨rfl, rfl⟩
    obtain ⟨ro, rc, rfl⟩ := own_slice HBW.out.row
    go_wp2_with (at_builtin; (refine wpList_append_own_at _ rfl (.tmp 76) (.tmp 82) 39 rfl 0 45 i0 (.agg #[.int .i64 0, .int .i64 0]) 2 16 Try.underlying39 hi hz0 hz1 hz2 rfl (by decide) (.slice ro sp.length rc) sp.length (spanCells sp) rfl (own_keep HBW.out.row (fun b hb => Below.heap_alloc _ _ _ (own_lt HBW.out.row hb))) ⟨w.heap.size + 1, 0, none⟩ 1 1 [.int .i64 p, _] rfl rfl (two_at hWs _ _ _) (by intro u hu; simp at hu; rcases hu with rfl | rfl <;> rfl) (by unfold maxLen; omega) (by omega) (Nat.zero_le _) ?_; intro rd' w5 hown5 hgrow5 _ hblk5; obtain ⟨ro2, rc2, rfl⟩ := own_slice hown5; have hH5 : Has w5 g 41 #[.string s, .slice (some (⟨b, off + 2, none⟩ : Addr)) rest.length (cap - 1), .slice ro sp.length rc] := (hgrow5.block g (by have := HBW.out.blk.lt; simp at this ⊢; omega) (fun e => HBW.out.ne e.symm)).trans (HBW.out.blk.alloc _); have y0 : w5.cell? ⟨g, 0, none⟩ = some (.string s) := hH5.cell 0; have y2 : w5.cell? ⟨g, 2, none⟩ = some (.slice ro sp.length rc) := hH5.cell 2; have z2 := hH5.frozen 2; have HG5 := hid hgrow5; have HO5 := hid hown5; have HBL := hid hblk5; clear hgrow5 hown5 hblk5 hH5))
    all_goals
      go_returns
      have hO5 := HO5.out
      rw [show ((p : Int) + q) = ((p + q : Nat) : Int) by omega] at hO5
      exact rx_post rfl (rx_fin1 HBW.out HKW.out h1 H2.out H3.out H4.out HG5.out hO5 HBL.out) rfl
end Go.Proofs.Yteclomkhienhiaa

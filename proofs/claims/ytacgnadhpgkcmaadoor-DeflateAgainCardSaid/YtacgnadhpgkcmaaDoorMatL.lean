/- Find at a text of two bytes; live (contracts of the functions). -/
import Derived.Test.YtacgnadhpgkcmaaDoorMatA0
import Derived.Test.YtacgnadhpgkcmaaDoorMatK
import Derived.Test.YtacgnadhpgkcmaaDoorMatC
namespace Go.Proofs.YtacgnadhpgkcmaaDoor
open Go.RowKit
set_option linter.unusedVariables false
theorem cell_al1 {w : World} {b o : Nat} {v : Value} (k : w.cell? ⟨b, o, none⟩ = some v) : ∀ o1, (w.alloc o1).cell? ⟨b, o, none⟩ = some v := fun o1 => ((Bw.refl w).alloc o1).cell k
theorem cell_al2 {w : World} {b o : Nat} {v : Value} (k : w.cell? ⟨b, o, none⟩ = some v) : ∀ o1 o2, ((w.alloc o1).alloc o2).cell? ⟨b, o, none⟩ = some v := fun o1 o2 => (((Bw.refl w).alloc o1).alloc o2).cell k
set_option maxRecDepth 100000 in
set_option maxHeartbeats 1000000 in
theorem token_short (g : Nat) (s : ByteArray) (hs : s.size ≤ 2) (k : Nat) (hk : k < s.size) (w : World) (hc : w.cell? ⟨g, 0, none⟩ = some (.string s)) :
    Calls Tryd.prog 29 #[.pointer (some ⟨g, 0, none⟩), .int .i64 k] w fun e w' => e = .returned (.agg #[.int .u8 (s[k].toNat : Nat), .int .i64 0, .int .i64 0]) ∧ Bw w w' := by
  have hk1 : (k : Int) < s.size := by omega
  have hc1 := cell_al1 hc
  have hc2 := cell_al2 hc
  clear hc
  have h3 : ((s.size : Int) - k) < 3 := by omega
  go_enter Tryd.func29, Tryd.ntmps29
  go_wp2
  refine bodyPost_ret (by simp [results, Tryd.results29, go_sem]; try rfl) rfl ?_
  exact ⟨rfl, ((Bw.refl w).alloc _).alloc _⟩
set_option maxRecDepth 100000 in
theorem keep_short (g : Nat) (s : ByteArray) (hs : s.size ≤ 2) (k : Nat) (hk : k < s.size) (w : World) (hc : w.cell? ⟨g, 0, none⟩ = some (.string s)) :
    Calls Tryd.prog 30 #[.pointer (some ⟨g, 0, none⟩), .int .i64 k] w fun e w' => (∃ v, e = .returned v) ∧ w' = w := by
  have hk1 : (k : Int) < s.size := by omega
  have h3 : ((s.size : Int) - k) < 3 := by omega
  go_enter Tryd.func30, Tryd.ntmps30
  go_wp2
  refine bodyPost_ret (results_none rfl _ _ _) rfl ?_
  exact ⟨⟨_, rfl⟩, rfl⟩
/-- The bytes of a text, each alone. -/
def lits (s : ByteArray) (k : Nat) : List TokR := (s.data.toList.take k).map fun b => ⟨b.toNat, 0, 0⟩
theorem lits_succ (s : ByteArray) (k : Nat) (h : k < s.size) : lits s (k + 1) = lits s k ++ [⟨s[k].toNat, 0, 0⟩] := by
  unfold lits
  have h2 : k < s.data.toList.length := by simpa using h
  rw [List.take_succ_eq_append_getElem h2, List.map_append]
  rfl
theorem three_at {w : World} {b : Nat} {t : TypeId} {x y z : Value} (h : Has w b t #[x, y, z]) : ∀ j u, [x, y, z][j]? = some u → w.cell? (Addr.add ⟨b, 0, none⟩ j) = some u := fun j u hu => by
  rw [addr_add, h.cell j, ← hu]
  simp
set_option maxRecDepth 100000 in
set_option maxHeartbeats 4000000 in
theorem find_short (s : ByteArray) (hs : s.size ≤ 2) (w : World) :
    Calls Tryd.prog 15 #[.string s] w fun e w' => ∃ a cap, e = .returned (.slice a s.size cap) ∧ Bw w w' := by
  obtain ⟨i0, hinf, hz0, hz1, hz2⟩ := info_parts tokInfo
  have hmm := @run_makeMap Tryd.prog
  have HB0 := hid (((Bw.refl w).alloc (.map #[] 0)).alloc (.cells #[.string s, .map (some w.heap.size)] 77))
  have HF0 := hid (Has.new (w.alloc (.map #[] 0)) 77 #[.string s, .map (some w.heap.size)])
  rw [World.size_alloc] at HF0
  obtain ⟨g, hg⟩ : ∃ g, w.heap.size + 1 = g := ⟨_, rfl⟩
  rw [hg] at HF0
  have hgl : w.heap.size < g := by omega
  have HG := hid hg
  clear hg
  go_enter Tryd.func15, Tryd.ntmps15
  go_wp2
  rw [HG.out]
  go_loopw [4, 5] (fun v i wr => ∃ k : Nat, k ≤ s.size ∧ i = .int .i64 k ∧ wr.ownsRow w.heap.size 30 3 v k (tokCells (lits s k)) ∧ Has wr g 77 #[.string s, .map (some w.heap.size)] ∧ Bw w wr) (fun _ i _ => s.size - (intOf i).toNat)
  case atStart => exact ⟨0, Nat.zero_le _, rfl, World.ownsRow_nil _ _ _ _, HF0.out, HB0.out⟩
  case round =>
    rename World => wr
    obtain ⟨k, hk, rfl, hown, hf, hbw⟩ := hrel
    obtain ⟨vo, vc, rfl⟩ := own_slice hown
    have HOW := hid hown
    have HF := hid hf
    have HBW := hid hbw
    have hzw := hbw.size
    by_cases hlt : k < s.size
    · have hk1 : (k : Int) < s.size := by omega
      have HT := hid (token_short g s hs k hlt wr (hf.cell 0))
      have HL := hid (lits_succ s k hlt)
      generalize (s[k]'hlt).toNat = x at *
      have hmx : max (0 : Int) 1 = 1 := by decide
      clear hown hf hbw hmm
      go_wp2_with fail
      refine HT.out.mono ?_
      rintro e w2 ⟨rfl, hw2⟩
      have hz2' := hw2.size
      have HB2 := hid (HBW.out.trans hw2)
      have HT2 := hid (Has.new w2 30 #[.int .u8 x, .int .i64 0, .int .i64 0])
      have HO2 := hid (hw2.own HOW.out)
      have HF2 := hid (hw2.has HF.out)
      clear hw2
      go_wp2_with (at_builtin; refine wpList_append_own_at _ rfl (.tmp 18) (.tmp 20) 22 rfl w.heap.size 30 i0 (.agg #[.int .u8 0, .int .i64 0, .int .i64 0]) 3 24 Tryd.underlying22 hinf hz0 hz1 hz2 rfl (by decide) (.slice vo k vc) k (tokCells (lits s k)) rfl ((HO2.out.alloc _).alloc _) ⟨w2.heap.size + 1, 0, none⟩ 1 1 [.int .u8 x, .int .i64 0, .int .i64 0] rfl rfl (three_at (by simpa using Has.new (w2.alloc (.cells #[.int .u8 x, .int .i64 0, .int .i64 0] 30)) 30 #[.int .u8 x, .int .i64 0, .int .i64 0])) (by intro u hu; simp at hu; rcases hu with rfl | rfl | rfl <;> rfl) (by unfold maxLen; omega) (by omega) (by simp only [World.size_alloc]; omega) ?_; intro v' w5 hown5 hgrow5 _ _; have HO5 := hid hown5; have HG5 := hid hgrow5; have HT5 := hid (has_grown (HT2.out.alloc (.cells #[.int .u8 x, .int .i64 0, .int .i64 0] 30)) hgrow5 (fun e => absurd (own_lt HO2.out e) (Nat.lt_irrefl _))); have g5 : w5.cell? ⟨w2.heap.size, 1, none⟩ = some (.int .i64 0) := HT5.out.cell 1; have HF5 := hid (has_grown ((HF2.out.alloc _).alloc _) hgrow5 (own_ne_has HO2.out HF2.out (by decide))); obtain ⟨vo5, vc5, rfl⟩ := own_slice hown5; clear hown5 hgrow5)
      have HK5 := hid (keep_short g s hs k hlt w5 (HF5.out.cell 0))
      have HB5 : Hid (Bw w w5) := hid (Below.trans ((HB2.out.alloc _).alloc _) (own_grown (by simp only [World.size_alloc]; omega) (fun b hb => own_ge HO2.out hb) HG5.out))
      go_loopw [5, 25] (fun i j wi => wi = w5 ∧ ∃ m : Nat, m ≤ 1 ∧ j = .int .i64 m ∧ i = .int .i64 (k + m : Nat)) (fun _ j _ => 1 - (intOf j).toNat)
      case atStart => exact ⟨rfl, 0, Nat.zero_le _, rfl, rfl⟩
      case round =>
        obtain ⟨rfl, m, hm, rfl, rfl⟩ := hrel
        by_cases hm1 : m < 1
        · obtain rfl : m = 0 := by omega
          have hk8 : k ≤ 2 := by omega
          rw [Nat.add_zero]
          go_wp2_with fail
          refine HK5.out.mono ?_
          rintro e w6 ⟨⟨rv, rfl⟩, hw6⟩
          go_wp2
          exact ⟨⟨trivial, 1, Nat.le_refl _, rfl, by go_num⟩, by simp [intOf]⟩
        · obtain rfl : m = 1 := by omega
          go_wp2
          refine ⟨⟨k + 1, by omega, rfl, ?_, HF5.out, HB5.out⟩, by simp [intOf]; omega⟩
          rw [HL.out, tokCells_snoc]
          exact HO5.out
    · obtain rfl : k = s.size := by omega
      clear hmm
      go_wp2
      go_returns
      exact ⟨_, _, rfl, HBW.out⟩
end Go.Proofs.YtacgnadhpgkcmaaDoor

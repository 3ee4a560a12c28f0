/- keyAt, common (contracts of the functions). -/
import Derived.Test.YthegehgjpehfkaaMapA
import Derived.Test.YthegehgjpehfkaaMatL
import Derived.StillTailTactics
import Derived.IntWalk
namespace Go.Proofs.Ythegehgjpehfkaa
open Go.RowKit
set_option linter.unusedVariables false
/-- A block of three cells, each stored anew. -/
def put3 (w2 : World) (g : Nat) (x y z : Value) : World := ((w2.setCell ⟨g, 0, none⟩ x).setCell ⟨g, 1, none⟩ y).setCell ⟨g, 2, none⟩ z
theorem has_put3 {w2 : World} {g : Nat} {t : TypeId} {a b c : Value} (h : Has w2 g t #[a, b, c]) (x y z : Value) :
    (put3 w2 g x y z).cell? ⟨g, 0, none⟩ = some x ∧ (put3 w2 g x y z).cell? ⟨g, 1, none⟩ = some y ∧ (put3 w2 g x y z).cell? ⟨g, 2, none⟩ = some z := by
  have h2 := ((h.put 0 x).put 1 y).put 2 z
  exact ⟨(h2.cell 0).trans (by simp), (h2.cell 1).trans (by simp), (h2.cell 2).trans (by simp)⟩
theorem put3_bw {w w2 : World} (h : Bw w w2) (x y z : Value) : Bw w (put3 w2 w.heap.size x y z) :=
  Below.setCell (Below.setCell (Below.setCell h (Nat.le_refl _) _) (Nat.le_refl _) _) (Nat.le_refl _) _
set_option maxRecDepth 100000 in
set_option maxHeartbeats 2000000 in
theorem keyAt_any (g : Nat) (s : ByteArray) (hs : s.size ≤ 1000000) (k : Nat) (hk : k + 2 < s.size) (w : World) (hc : w.cell? ⟨g, 0, none⟩ = some (.string s)) :
    Calls Try.prog 30 #[.pointer (some ⟨g, 0, none⟩), .int .i64 k] w fun e w' => e = .returned (keyV s[k] (s[k + 1]'(by omega)) (s[k + 2]'hk)) ∧ Bw w w' := by
  have hk0 : (k : Int) < s.size := by omega
  have hk1 : (k : Int) + 1 < s.size := by omega
  have hk2 : (k : Int) + 2 < s.size := by omega
  have hc1 := cell_al1 hc (.cells #[.int .u8 0, .int .u8 0, .int .u8 0] 58)
  have hN : Has (w.alloc (.cells #[.int .u8 0, .int .u8 0, .int .u8 0] 58)) w.heap.size 58 #[.int .u8 0, .int .u8 0, .int .u8 0] := Has.new w _ _
  have HB := hid ((Bw.refl w).alloc (.cells #[.int .u8 0, .int .u8 0, .int .u8 0] 58))
  have HN := hid hN
  clear hc hN
  have e1 : IntKind.i64.wrap ((k : Int) + 1) = (k : Int) + 1 := IntWalk.i64_in _ (by omega)
  have e2 : IntKind.i64.wrap ((k : Int) + 2) = (k : Int) + 2 := IntWalk.i64_in _ (by omega)
  go_enter Try.func30, Try.ntmps30
  have n1 : (0 : Int) ≤ (k : Int) + 1 := by omega
  have n2 : (0 : Int) ≤ (k : Int) + 2 := by omega
  have t1 : ((k : Int) + 1).toNat = k + 1 := by omega
  have t2 : ((k : Int) + 2).toNat = k + 2 := by omega
  go_wp2_with fail
  generalize w.alloc (.cells #[.int .u8 0, .int .u8 0, .int .u8 0] 58) = W at *
  refine wp_region_still_tail 21 (by kernel_rfl) (by kernel_rfl) ?_
  simp only [List.take_succ_cons, List.take_zero, List.drop_succ_cons, List.drop_zero]
  repeat still_step
  refine wpStill_nil ?_
  change wpList _ _ _ _ _ W.drew
  have HN2 := hid HN.out.drew
  have HB2 := hid (HB.out.drewN 1)
  have HB3 : Hid (Bw w W.drew) := HB2
  generalize W.drew = W2 at *
  have d0 := HN2.out.cell 0
  have d1 := HN2.out.cell 1
  have d2 := HN2.out.cell 2
  have d0 : W2.cell? ⟨w.heap.size, 0, none⟩ = some (.int .u8 0) := d0
  have d1 : W2.cell? ⟨w.heap.size, 1, none⟩ = some (.int .u8 0) := d1
  have d2 : W2.cell? ⟨w.heap.size, 2, none⟩ = some (.int .u8 0) := d2
  have f0 := HN2.out.frozen 0
  have f1 := HN2.out.frozen 1
  have f2 := HN2.out.frozen 2
  have HP3 := hid (has_put3 HN2.out (.int .u8 (s[k].toNat : Nat)) (.int .u8 ((s[k + 1]'(by omega)).toNat : Nat)) (.int .u8 ((s[k + 2]'hk).toNat : Nat)))
  have HB4 := hid (put3_bw HB3.out (.int .u8 (s[k].toNat : Nat)) (.int .u8 ((s[k + 1]'(by omega)).toNat : Nat)) (.int .u8 ((s[k + 2]'hk).toNat : Nat)))
  go_wp2
  obtain ⟨p0, p1, p2⟩ := HP3.out
  unfold put3 at p0 p1 p2 HB4
  generalize World.setCell (World.setCell (World.setCell W2 _ _) _ _) _ _ = W3 at *
  try simp only [Exit.inBlock, Exit.then]
  refine bodyPost_ret (by simp [results, Try.results30, go_sem, p0, p1, p2]; try rfl) rfl ?_
  exact ⟨rfl, HB4.out⟩
/-- From two places on, the bytes are the same so far. -/
def Same (s : ByteArray) (a b n : Nat) : Prop := ∀ i, i < n → s.data[a + i]? = s.data[b + i]?
def ComPost (s : ByteArray) (a b most : Nat) (w : World) (e : Ending) (w' : World) : Prop := ∃ n : Nat, e = .returned (.int .i64 n) ∧ n ≤ most ∧ Same s a b n ∧ (n = most ∨ s.data[a + n]? ≠ s.data[b + n]?) ∧ ∃ z, w' = w.drewN z
set_option maxRecDepth 100000 in
set_option maxHeartbeats 2000000 in
theorem common_any (g : Nat) (s : ByteArray) (hs : s.size ≤ 1000000) (a b most : Nat) (hab : a < b) (hb : b ≤ s.size) (hm : most = min (s.size - b) 258) (w : World) (hc : w.cell? ⟨g, 0, none⟩ = some (.string s)) :
    Calls Try.prog 31 #[.pointer (some ⟨g, 0, none⟩), .int .i64 a, .int .i64 b] w (ComPost s a b most w) := by
  have hmm : min ((s.size : Int) - b) 258 = most := by omega
  have hms : b + most ≤ s.size ∧ most ≤ 258 := by omega
  obtain ⟨hms1, hms2⟩ := hms
  clear hm
  go_enter Try.func31, Try.ntmps31
  go_wp2
  clear hmm
  go_loopw [8] (fun i wr => ∃ k : Nat, k ≤ most ∧ i = .int .i64 k ∧ Hid (Same s a b k) ∧ ∃ z, wr = w.drewN z) (fun i _ => most - (intOf i).toNat)
  case atStart => exact ⟨0, Nat.zero_le _, rfl, hid (fun i h => absurd h (Nat.not_lt_zero i)), 0, rfl⟩
  case round =>
    obtain ⟨k, hk, rfl, HS, z, rfl⟩ := hrel
    have hc1 : (w.drewN z).cell? ⟨g, 0, none⟩ = some (.string s) := by simpa using hc
    by_cases hlt : k < most
    · have d1 : decide (k < most) = true := decide_eq_true hlt
      have d1' : decide ((k : Int) < most) = true := decide_eq_true (by omega)
      have ha : a + k < s.size := by omega
      have hb2 : b + k < s.size := by omega
      have e1 : IntKind.i64.wrap ((a : Int) + k) = (a : Int) + k := IntWalk.i64_in _ (by omega)
      have e2 : IntKind.i64.wrap ((b : Int) + k) = (b : Int) + k := IntWalk.i64_in _ (by omega)
      have n1 : (0 : Int) ≤ (a : Int) + k := by omega
      have n2 : (0 : Int) ≤ (b : Int) + k := by omega
      have t1 : ((a : Int) + k).toNat = a + k := by omega
      have t2 : ((b : Int) + k).toNat = b + k := by omega
      have i1 : (a : Int) + k < s.size := by omega
      have i2 : (b : Int) + k < s.size := by omega
      have ga : s.data[a + k]? = some (s[a + k]'ha) := Array.getElem?_eq_getElem ha
      have gb : s.data[b + k]? = some (s[b + k]'hb2) := Array.getElem?_eq_getElem hb2
      have HGA := hid ga
      have HGB := hid gb
      clear ga gb
      have hfin : ∀ n, n ≤ most → Same s a b n → (n = most ∨ s.data[a + n]? ≠ s.data[b + n]?) → ∀ nq, ComPost s a b most w (.returned (.int .i64 n)) ((w.drewN z).drewN nq) := fun n h1 h2 h3 nq => ⟨n, rfl, h1, h2, h3, z + nq, by simp⟩
      have HFIN := hid hfin
      clear hfin
      by_cases heq : s[a + k]'ha = s[b + k]'hb2
      · have HS2 : Hid (Same s a b (k + 1)) := hid fun i hi => by
          rcases Nat.lt_or_ge i k with h | h
          · exact HS.out i h
          · obtain rfl : i = k := by omega
            rw [HGA.out, HGB.out, heq]
        have b1 : (((s[a + k]'ha).toNat : Int) == ((s[b + k]'hb2).toNat : Int)) = true := by rw [heq]; simp
        have b2 : ((s[a + k]'ha).toNat == (s[b + k]'hb2).toNat) = true := by rw [heq]; simp
        clear heq HGA HGB
        go_wp2_with fail
        go_quiet (fail)
        go_wp2
        exact ⟨⟨k + 1, by omega, by go_num, HS2, z + nq, by simp⟩, by simp [intOf]; omega⟩
      · have hne : (s[a + k]'ha).toNat ≠ (s[b + k]'hb2).toNat := fun h => heq (UInt8.toNat_inj.1 h)
        have b1 : (((s[a + k]'ha).toNat : Int) == ((s[b + k]'hb2).toNat : Int)) = false := by simp; omega
        have b2 : ((s[a + k]'ha).toNat == (s[b + k]'hb2).toNat) = false := by simpa using hne
        have hd : s.data[a + k]? ≠ s.data[b + k]? := by
          rw [HGA.out, HGB.out]
          intro h
          injection h with h
          exact heq h
        have HD := hid hd
        clear heq hne hd HGA HGB
        go_wp2_with fail
        go_quiet (fail)
        go_wp2
        go_returns
        exact HFIN.out k hk HS.out (.inr HD.out) nq
    · obtain rfl : k = most := by omega
      have hfin : ∀ n, n ≤ k → Same s a b n → (n = k ∨ s.data[a + n]? ≠ s.data[b + n]?) → ∀ nq, ComPost s a b k w (.returned (.int .i64 n)) ((w.drewN z).drewN nq) := fun n h1 h2 h3 nq => ⟨n, rfl, h1, h2, h3, z + nq, by simp⟩
      have HFIN := hid hfin
      have d1 : decide (k < k) = false := decide_eq_false (Nat.lt_irrefl _)
      have d1' : decide ((k : Int) < k) = false := decide_eq_false (by omega)
      clear hfin
      go_wp2_with fail
      go_quiet (fail)
      go_wp2
      go_returns
      exact HFIN.out k (Nat.le_refl _) HS.out (.inl rfl) nq
end Go.Proofs.Ythegehgjpehfkaa

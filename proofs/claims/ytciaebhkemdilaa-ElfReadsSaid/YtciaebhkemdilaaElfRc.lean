/- The document's sections (contract of the function). -/
import Derived.Test.YtciaebhkemdilaaElfRb
namespace Go.Proofs.Ytciaebhkemdilaa
open Go.RowKit
set_option linter.unusedVariables false
set_option linter.unusedSimpArgs false
def namV (s : ByteArray) (p n : Nat) : List Value := (List.range n).map fun i => Value.int .u64 (n4 s (p + 64 * (i + 1)) : Nat)
def rawL (s : ByteArray) (p n : Nat) : List SecR := (List.range n).map fun i => secC s (p + 64 * (i + 1)) ⟨#[]⟩ (secD s (p + 64 * (i + 1)))
def DSecsQ (s : ByteArray) (p n : Nat) (w : World) (e : Ending) (w' : World) : Prop :=
  Bw w w' ∧ (((∀ i, i < 64 → bt s (p + i) = 0) ∧ firstE (fun i => secE s (p + 64 * i)) (n - 1) 1 = 0 ∧ ∃ a c b d, e = .returned (.tuple #[.slice a (n - 1) c, .slice b (n - 1) d, .int .i64 0]) ∧ w'.ownsRow w.heap.size 43 10 (.slice a (n - 1) c) (n - 1) (secCells (rawL s p (n - 1))) ∧ w'.ownsRow w.heap.size 23 1 (.slice b (n - 1) d) (n - 1) (namV s p (n - 1)))
    ∨ ((¬ ∀ i, i < 64 → bt s (p + i) = 0) ∧ e = .returned (.tuple #[.slice none 0 0, .slice none 0 0, .int .i64 3])) ∨ ((∀ i, i < 64 → bt s (p + i) = 0) ∧ firstE (fun i => secE s (p + 64 * i)) (n - 1) 1 ≠ 0 ∧ e = .returned (.tuple #[.slice none 0 0, .slice none 0 0, .int .i64 (firstE (fun i => secE s (p + 64 * i)) (n - 1) 1)])))
theorem u64Info : (Try.prog.info? 23).map (fun i => (i.zero, i.size, i.bytes)) = some (some (.int .u64 0), 1, 8) := by kernel_rfl
theorem own_other {w w' : World} {B B' z z' n n' : Nat} {t t' : TypeId} {v v' : Value} {xs xs' : List Value} (h : w.ownsRow B t z v n xs) (k : w.ownsRow B' t' z' v' n' xs') (ht : t ≠ t') (hg : w.grownBy w' v'.ownBlock) : w'.ownsRow B t z v n xs :=
  own_keep h fun b hb => hg.block b (own_lt h hb) (fun e => by
    obtain ⟨cur, hc⟩ := own_at k e.symm
    exact own_ne_has h hc ht hb)
set_option maxRecDepth 100000 in
set_option maxHeartbeats 8000000 in
theorem dsections_any (s : ByteArray) (hs : s.size ≤ 100000000) (p n : Nat) (hn2 : 2 ≤ n) (hn : n ≤ 1002) (hp : p + 64 * n ≤ s.size) (w : World) :
    Calls Try.prog 25 #[.string s, .int .i64 p, .int .i64 n] w (DSecsQ s p n w) := by
  obtain ⟨i0, hinf, hz0, hz1, hz2⟩ := info_parts secKInfo
  obtain ⟨j0, jinf, jz0, jz1, jz2⟩ := info_parts u64Info
  have hl : s.size ≤ 281474976710656 := by omega
  have HGD := hid (fun e w' a c b d (hb : Bw w w') (hz : ∀ i, i < 64 → bt s (p + i) = 0) (h0 : firstE (fun i => secE s (p + 64 * i)) (n - 1) 1 = 0) (he : e = .returned (.tuple #[.slice a (n - 1) c, .slice b (n - 1) d, .int .i64 0])) (ho : w'.ownsRow w.heap.size 43 10 (.slice a (n - 1) c) (n - 1) (secCells (rawL s p (n - 1)))) (ho2 : w'.ownsRow w.heap.size 23 1 (.slice b (n - 1) d) (n - 1) (namV s p (n - 1))) => (show DSecsQ s p n w e w' from ⟨hb, .inl ⟨hz, h0, a, c, b, d, he, ho, ho2⟩⟩))
  have HNZ := hid (fun e w' (hb : Bw w w') (hz : ¬ ∀ i, i < 64 → bt s (p + i) = 0) (he : e = .returned (.tuple #[.slice none 0 0, .slice none 0 0, .int .i64 3])) => (show DSecsQ s p n w e w' from ⟨hb, .inr (.inl ⟨hz, he⟩)⟩))
  have HBD := hid (fun e w' (E : Int) (hb : Bw w w') (hz : ∀ i, i < 64 → bt s (p + i) = 0) (h0 : firstE (fun i => secE s (p + 64 * i)) (n - 1) 1 = E) (h1 : E ≠ 0) (he : e = .returned (.tuple #[.slice none 0 0, .slice none 0 0, .int .i64 E])) => (show DSecsQ s p n w e w' from ⟨hb, .inr (.inr ⟨hz, by rw [h0]; exact h1, by rw [h0]; exact he⟩)⟩))
  go_enter Try.func25, Try.ntmps25
  go_wp2
  go_loopw [9] (fun vi wr => ∃ k : Nat, k ≤ 64 ∧ vi = .int .i64 k ∧ Hid (∀ i, i < k → bt s (p + i) = 0) ∧ w = wr) (fun vi _ => 64 - (intOf vi).toNat)
  case atStart => exact ⟨0, Nat.zero_le _, rfl, hid (fun i h => absurd h (Nat.not_lt_zero i)), rfl⟩
  case round =>
    rename World => wr
    obtain ⟨k, hk, rfl, HZ, hww⟩ := hrel
    subst hww
    by_cases hk64 : k < 64
    · have hk641 : (k : Int) < 64 := by omega
      have v1 : IntKind.i64.wrap ((p : Int) + (k : Int)) = ((p + k : Nat) : Int) := by rw [IntWalk.i64_in _ (by omega)]; omega
      obtain ⟨q, hq⟩ : ∃ q, p + k = q := ⟨_, rfl⟩
      have HQ := hid hq
      have hlt : q < s.size := by omega
      have hlt1 : (q : Int) < (s.size : Int) := by omega
      have hb := bt_eq s q hlt
      rw [hq] at v1
      clear hq
      by_cases hz : bt s q = 0
      · have hz2 : (s[q]'hlt).toNat = 0 := by omega
        have HN := hid hz
        clear hb hz
        go_wp2
        exact ⟨⟨k + 1, by omega, by go_num, hid (fun i hi => by
          by_cases e : i = k
          · subst e; rw [HQ.out]; exact HN.out
          · exact HZ.out i (by omega)), by trivial⟩, by simp [intOf]; omega⟩
      · have hz2 : ¬ (s[q]'hlt).toNat = 0 := by omega
        have HN := hid hz
        clear hb hz
        go_wp2
        go_returns
        exact HNZ.out _ _ (Bw.refl _) (fun h => HN.out (by rw [← HQ.out]; exact h k hk64)) rfl
    · have HZ64 := hid (fun i (hi : i < 64) => HZ.out i (by omega))
      have h64 : ¬ (k : Int) < 64 := by omega
      clear hk64 hk
      go_wp2
      clear h64
      go_loopw [10, 11, 12] (fun vv vn vi wr => ∃ (j : Nat) (ao : Option Addr) (cp : Nat) (bo : Option Addr) (cn : Nat), j + 1 ≤ n ∧ vi = .int .i64 (j + 1 : Nat) ∧ vv = .slice ao j cp ∧ vn = .slice bo j cn ∧ Hid (∀ i, i < j → secE s (p + 64 * (i + 1)) = 0) ∧ wr.ownsRow w.heap.size 43 10 (.slice ao j cp) j (secCells (rawL s p j)) ∧ wr.ownsRow w.heap.size 23 1 (.slice bo j cn) j (namV s p j) ∧ Bw w wr) (fun _ _ vi _ => n - (intOf vi).toNat)
      case atStart => exact ⟨0, none, 0, none, 0, by omega, rfl, rfl, rfl, hid (fun i h => absurd h (Nat.not_lt_zero i)), ⟨rfl, .inl ⟨rfl, rfl⟩⟩, ⟨rfl, .inl ⟨rfl, rfl⟩⟩, Bw.refl _⟩
      case round =>
        rename World => wr
        obtain ⟨j, ao, cp, bo, cn, hj, rfl, rfl, rfl, HA, hown, hown2, hw⟩ := hrel
        have HO := hid hown
        have HU := hid hown2
        have HW := hid hw
        clear hown hown2 hw
        obtain ⟨i, hi⟩ : ∃ i, j + 1 = i := ⟨_, rfl⟩
        rw [hi]
        by_cases hlt : i < n
        · have hlt1 : (i : Int) < n := by omega
          obtain ⟨h, hh⟩ : ∃ h, p + 64 * i = h := ⟨_, rfl⟩
          have hB : h + 64 ≤ s.size := by omega
          have HAJ := hid (fun (E : Int) (h0 : secE s h = E) (h1 : E ≠ 0) => (show firstE (fun i => secE s (p + 64 * i)) (n - 1) 1 = E from by
            have := first_is (f := fun i => secE s (p + 64 * i)) (n := n - 1) (i := 1) (k := i) (by omega) (by omega) (fun q h1 h2 => by
              have := HA.out (q - 1) (by omega)
              rw [show q - 1 + 1 = q by omega] at this
              exact this) (by show secE s (p + 64 * i) ≠ 0; rw [hh, h0]; exact h1)
            rw [this]
            show secE s (p + 64 * i) = E
            rw [hh, h0]))
          have HSE := hid (show secE s h = if great < n8 s (h + 24) ∨ great < n8 s (h + 32) then 3 else if n4 s (h + 4) ≠ 8 ∧ s.size < n8 s (h + 24) + n8 s (h + 32) then 2 else 0 from rfl)
          have HSC := hid (fun dat => (show secC s h ⟨#[]⟩ dat = ⟨⟨#[]⟩, n4 s (h + 4), n8 s (h + 8), n8 s (h + 16), dat, secZ s h, n4 s (h + 40), n4 s (h + 44), n8 s (h + 48), n8 s (h + 56)⟩ from rfl))
          have HSD := hid (show secD s h = if n4 s (h + 4) = 8 then ⟨#[]⟩ else s.extract (n8 s (h + 24)) (n8 s (h + 24) + n8 s (h + 32)) from rfl)
          have HSZ := hid (show secZ s h = if n4 s (h + 4) = 8 then n8 s (h + 32) else 0 from rfl)
          have HH := hid hh
          have HI := hid hi
          have v1 : IntKind.i64.wrap (64 * (i : Int)) = ((64 * i : Nat) : Int) := by rw [IntWalk.i64_in _ (by omega)]; omega
          have v2 : IntKind.i64.wrap ((p : Int) + ((64 * i : Nat) : Int)) = (h : Int) := by rw [IntWalk.i64_in _ (by omega)]; omega
          have v3 : IntKind.i64.wrap ((h : Int) + 64) = ((h + 64 : Nat) : Int) := by rw [IntWalk.i64_in _ (by omega)]; omega
          obtain ⟨X, hX⟩ : ∃ X, s.extract h (h + 64) = X := ⟨_, rfl⟩
          have hXz : X.size = 64 := by rw [← hX]; simp; omega
          have hXX := fun d a (ha : a + d ≤ 64) => num_part s h 64 a d ha hB
          rw [hX] at hXX
          have HXE := hid hX
          have N0 := hid (fun W => (show Calls Try.prog 22 #[.string X, .int .i64 0, .int .i64 4] W fun e w' => e = .returned (.int .u64 (n4 s h : Nat)) ∧ W = w' from by
            have q := num4_any X (by rw [hXz]; decide) 0 (by omega) W
            rw [show n4 X 0 = n4 s h from hXX 4 0 (by decide)] at q
            exact q))
          have l0 := n4_lt s h
          have HY0 := hid (show n4 s h = n4 s h from rfl)
          obtain ⟨y0, hy0⟩ : ∃ x, n4 s h = x := ⟨_, rfl⟩
          rw [hy0] at N0 l0
          have HYY := hid hy0
          have N4 := hid (fun W => (show Calls Try.prog 22 #[.string X, .int .i64 4, .int .i64 4] W fun e w' => e = .returned (.int .u64 (n4 s (h + 4) : Nat)) ∧ W = w' from by
            have q := num4_any X (by rw [hXz]; decide) 4 (by omega) W
            rw [show n4 X 4 = n4 s (h + 4) from hXX 4 4 (by decide)] at q
            exact q))
          have l4 := n4_lt s (h + 4)
          obtain ⟨y4, hy4⟩ : ∃ x, n4 s (h + 4) = x := ⟨_, rfl⟩
          rw [hy4] at N4 l4 HSC HSE HSD HSZ
          have N8 := hid (fun W => (show Calls Try.prog 22 #[.string X, .int .i64 8, .int .i64 8] W fun e w' => e = .returned (.int .u64 (n8 s (h + 8) : Nat)) ∧ W = w' from by
            have q := num8_any X (by rw [hXz]; decide) 8 (by omega) W
            rw [show n8 X 8 = n8 s (h + 8) from hXX 8 8 (by decide)] at q
            exact q))
          have l8 := n8_lt s (h + 8)
          obtain ⟨y8, hy8⟩ : ∃ x, n8 s (h + 8) = x := ⟨_, rfl⟩
          rw [hy8] at N8 l8 HSC
          have N16 := hid (fun W => (show Calls Try.prog 22 #[.string X, .int .i64 16, .int .i64 8] W fun e w' => e = .returned (.int .u64 (n8 s (h + 16) : Nat)) ∧ W = w' from by
            have q := num8_any X (by rw [hXz]; decide) 16 (by omega) W
            rw [show n8 X 16 = n8 s (h + 16) from hXX 8 16 (by decide)] at q
            exact q))
          have l16 := n8_lt s (h + 16)
          obtain ⟨y16, hy16⟩ : ∃ x, n8 s (h + 16) = x := ⟨_, rfl⟩
          rw [hy16] at N16 l16 HSC
          have N24 := hid (fun W => (show Calls Try.prog 22 #[.string X, .int .i64 24, .int .i64 8] W fun e w' => e = .returned (.int .u64 (n8 s (h + 24) : Nat)) ∧ W = w' from by
            have q := num8_any X (by rw [hXz]; decide) 24 (by omega) W
            rw [show n8 X 24 = n8 s (h + 24) from hXX 8 24 (by decide)] at q
            exact q))
          have l24 := n8_lt s (h + 24)
          obtain ⟨y24, hy24⟩ : ∃ x, n8 s (h + 24) = x := ⟨_, rfl⟩
          rw [hy24] at N24 l24 HSE HSD
          have N32 := hid (fun W => (show Calls Try.prog 22 #[.string X, .int .i64 32, .int .i64 8] W fun e w' => e = .returned (.int .u64 (n8 s (h + 32) : Nat)) ∧ W = w' from by
            have q := num8_any X (by rw [hXz]; decide) 32 (by omega) W
            rw [show n8 X 32 = n8 s (h + 32) from hXX 8 32 (by decide)] at q
            exact q))
          have l32 := n8_lt s (h + 32)
          obtain ⟨y32, hy32⟩ : ∃ x, n8 s (h + 32) = x := ⟨_, rfl⟩
          rw [hy32] at N32 l32 HSE HSD HSZ
          have N40 := hid (fun W => (show Calls Try.prog 22 #[.string X, .int .i64 40, .int .i64 4] W fun e w' => e = .returned (.int .u64 (n4 s (h + 40) : Nat)) ∧ W = w' from by
            have q := num4_any X (by rw [hXz]; decide) 40 (by omega) W
            rw [show n4 X 40 = n4 s (h + 40) from hXX 4 40 (by decide)] at q
            exact q))
          have l40 := n4_lt s (h + 40)
          obtain ⟨y40, hy40⟩ : ∃ x, n4 s (h + 40) = x := ⟨_, rfl⟩
          rw [hy40] at N40 l40 HSC
          have N44 := hid (fun W => (show Calls Try.prog 22 #[.string X, .int .i64 44, .int .i64 4] W fun e w' => e = .returned (.int .u64 (n4 s (h + 44) : Nat)) ∧ W = w' from by
            have q := num4_any X (by rw [hXz]; decide) 44 (by omega) W
            rw [show n4 X 44 = n4 s (h + 44) from hXX 4 44 (by decide)] at q
            exact q))
          have l44 := n4_lt s (h + 44)
          obtain ⟨y44, hy44⟩ : ∃ x, n4 s (h + 44) = x := ⟨_, rfl⟩
          rw [hy44] at N44 l44 HSC
          have N48 := hid (fun W => (show Calls Try.prog 22 #[.string X, .int .i64 48, .int .i64 8] W fun e w' => e = .returned (.int .u64 (n8 s (h + 48) : Nat)) ∧ W = w' from by
            have q := num8_any X (by rw [hXz]; decide) 48 (by omega) W
            rw [show n8 X 48 = n8 s (h + 48) from hXX 8 48 (by decide)] at q
            exact q))
          have l48 := n8_lt s (h + 48)
          obtain ⟨y48, hy48⟩ : ∃ x, n8 s (h + 48) = x := ⟨_, rfl⟩
          rw [hy48] at N48 l48 HSC
          have N56 := hid (fun W => (show Calls Try.prog 22 #[.string X, .int .i64 56, .int .i64 8] W fun e w' => e = .returned (.int .u64 (n8 s (h + 56) : Nat)) ∧ W = w' from by
            have q := num8_any X (by rw [hXz]; decide) 56 (by omega) W
            rw [show n8 X 56 = n8 s (h + 56) from hXX 8 56 (by decide)] at q
            exact q))
          have l56 := n8_lt s (h + 56)
          obtain ⟨y56, hy56⟩ : ∃ x, n8 s (h + 56) = x := ⟨_, rfl⟩
          rw [hy56] at N56 l56 HSC
          have hh0 : (0 : Int) ≤ (h : Int) := by omega
          have hh1 : (h : Int) ≤ ((h + 64 : Nat) : Int) := by omega
          have hh2 : ((h + 64 : Nat) : Int) ≤ (s.size : Int) := by omega
          have u4 : IntKind.i64.wrap (y4 : Int) = y4 := IntWalk.i64_in _ (by omega)
          have u40 : IntKind.i64.wrap (y40 : Int) = y40 := IntWalk.i64_in _ (by omega)
          have u44 : IntKind.i64.wrap (y44 : Int) = y44 := IntWalk.i64_in _ (by omega)
          have HST := hid (fun W => stands_any s hl y24 y32 W)
          obtain ⟨h64, hh64⟩ : ∃ x, h + 64 = x := ⟨_, rfl⟩
          rw [hh64] at v3 hh1 hh2
          have HXF := hid (show s.extract (p + 64 * i) (p + 64 * i + 64) = X from by rw [HH.out]; exact HXE.out)
          have HX0 := hid (Has.new wr 43 #[.string ⟨#[]⟩, .int .i64 y4, .int .u64 y8, .int .u64 y16, .string ⟨#[]⟩, .int .i64 0, .int .i64 y40, .int .i64 y44, .int .u64 y48, .int .u64 y56])
          have HW0 := hid (HW.out.alloc (.cells #[.string ⟨#[]⟩, .int .i64 y4, .int .u64 y8, .int .u64 y16, .string ⟨#[]⟩, .int .i64 0, .int .i64 y40, .int .i64 y44, .int .u64 y48, .int .u64 y56] 43))
          have HO0 := hid (((Bw.refl wr).alloc (.cells #[.string ⟨#[]⟩, .int .i64 y4, .int .u64 y8, .int .u64 y16, .string ⟨#[]⟩, .int .i64 0, .int .i64 y40, .int .i64 y44, .int .u64 y48, .int .u64 y56] 43)).own HO.out)
          have HU0 := hid (((Bw.refl wr).alloc (.cells #[.string ⟨#[]⟩, .int .i64 y4, .int .u64 y8, .int .u64 y16, .string ⟨#[]⟩, .int .i64 0, .int .i64 y40, .int .i64 y44, .int .u64 y48, .int .u64 y56] 43)).own HU.out)
          have HOL := hid (fun (g : Nat) (h : (Value.slice ao j cp).ownBlock = some g) => own_lt HO.out h)
          have HUL := hid (fun (g : Nat) (h : (Value.slice bo j cn).ownBlock = some g) => own_lt HU.out h)
          have HSZB := hid HW.out.size
          obtain ⟨xb, hxb⟩ : ∃ xb, wr.heap.size = xb := ⟨_, rfl⟩
          have HXB := hid hxb
          rw [hxb] at HX0 HOL HUL HSZB
          clear hX hXX hy0 hy4 hy8 hy16 hy24 hy32 hy40 hy44 hy48 hy56 hh hi HXE HO HU HW
          go_upto_region 12 with fail
          rw [HXF.out]
          go_upto_region 13 with (go_at_call 22; with_reducible (first | refine (N4.out _).mono ?_ | refine (N8.out _).mono ?_ | refine (N16.out _).mono ?_ | refine (N40.out _).mono ?_ | refine (N44.out _).mono ?_ | refine (N48.out _).mono ?_ | refine (N56.out _).mono ?_ | refine (N24.out _).mono ?_ | refine (N32.out _).mono ?_ | refine (N0.out _).mono ?_); rintro e w2 ⟨rfl, rfl⟩)
          generalize wr.alloc (.cells #[.string ⟨#[]⟩, .int .i64 y4, .int .u64 y8, .int .u64 y16, .string ⟨#[]⟩, .int .i64 0, .int .i64 y40, .int .i64 y44, .int .u64 y48, .int .u64 y56] 43) = wx at *
          clear hxb
          have x1 : wx.cell? ⟨xb, 1, none⟩ = some (.int .i64 y4) := HX0.out.cell 1
          by_cases g1 : (1099511627776 : Int) < (y24 : Int)
          · have HE3 := hid (HAJ.out 3 (by rw [HSE.out, if_pos (.inl (by unfold great; omega))]) (by decide))
            go_wp2_with (go_at_call 22; with_reducible (first | refine (N24.out _).mono ?_ | refine (N32.out _).mono ?_); rintro e w2 ⟨rfl, rfl⟩)
            go_returns
            exact HBD.out _ _ 3 HW0.out HZ64.out HE3.out (by decide) rfl
          by_cases g2 : (1099511627776 : Int) < (y32 : Int)
          · have HE3 := hid (HAJ.out 3 (by rw [HSE.out, if_pos (.inr (by unfold great; omega))]) (by decide))
            go_wp2_with (go_at_call 22; with_reducible (first | refine (N24.out _).mono ?_ | refine (N32.out _).mono ?_); rintro e w2 ⟨rfl, rfl⟩)
            go_returns
            exact HBD.out _ _ 3 HW0.out HZ64.out HE3.out (by decide) rfl
          have u32 : IntKind.i64.wrap (y32 : Int) = y32 := IntWalk.i64_in _ (by omega)
          by_cases h8 : y4 = 8
          · have t8 : ((y4 : Int) == 8) = true := by rw [h8]; rfl
            have HE0 := hid (show secE s h = 0 from by rw [HSE.out, if_neg (by unfold great; omega), if_neg (fun h => h.1 h8)])
            obtain ⟨dat, hdat⟩ : ∃ d : ByteArray, ⟨#[]⟩ = d := ⟨_, rfl⟩
            obtain ⟨siz, hsiz⟩ : ∃ d : Nat, y32 = d := ⟨_, rfl⟩
            have HDAT := hid (show secD s h = dat from by rw [HSD.out, if_pos h8, hdat])
            have HSIZ := hid (show secZ s h = siz from by rw [HSZ.out, if_pos h8, hsiz])
            have c5 : wx.cell? ⟨xb, 5, none⟩ = some (.int .i64 0) := HX0.out.cell 5
            have f5 := HX0.out.frozen 5
            have HXD := hid (show Has (wx.setCell ⟨xb, 5, none⟩ (.int .i64 y32)) xb 43 #[.string ⟨#[]⟩, .int .i64 y4, .int .u64 y8, .int .u64 y16, .string dat, .int .i64 (siz : Nat), .int .i64 y40, .int .i64 y44, .int .u64 y48, .int .u64 y56] from by
              have q := HX0.out.put 5 (.int .i64 y32)
              rw [← hdat, ← hsiz]
              exact q)
            have HWD := hid (show Bw w (wx.setCell ⟨xb, 5, none⟩ (.int .i64 y32)) from Below.setCell (p := ⟨xb, 5, none⟩) HW0.out HSZB.out _)
            have HOD := hid (own_keep HO0.out (w' := wx.setCell ⟨xb, 5, none⟩ (.int .i64 y32)) fun b hb => Below.heap_setCell wx ⟨xb, 5, none⟩ _ b (fun e => by have := HOL.out b hb; have e2 : b = xb := e; omega))
            have HUD := hid (own_keep HU0.out (w' := wx.setCell ⟨xb, 5, none⟩ (.int .i64 y32)) fun b hb => Below.heap_setCell wx ⟨xb, 5, none⟩ _ b (fun e => by have := HUL.out b hb; have e2 : b = xb := e; omega))
            clear h8 hdat hsiz
            go_upto_region 22 with (go_at_call 22; with_reducible (first | refine (N24.out _).mono ?_ | refine (N32.out _).mono ?_); rintro e w2 ⟨rfl, rfl⟩)
            generalize wx.setCell ⟨xb, 5, none⟩ (.int .i64 y32) = wd at *
            clear c5 f5 x1 HX0 HW0 HO0 HU0 HOL HUL
            go_upto_region 22 with fail
            refine wp_region_list ?_
            refine wpList_plain rfl fun K hK => ?_
            go_simp
            refine hK _ _ ?_
            clear hK K
            refine wpList_load_mid rfl 43 (.tmp 14) rfl xb 0 rfl [.string ⟨#[]⟩, .int .i64 y4, .int .u64 y8, .int .u64 y16, .string dat, .int .i64 (siz : Nat), .int .i64 y40, .int .i64 y44, .int .u64 y48, .int .u64 y56] _ HXD.out.range Try.underlying43 rfl inf_Section ?_
            have HBA := hid ((Bw.refl wd).alloc (.cells #[.string ⟨#[]⟩, .int .i64 y4, .int .u64 y8, .int .u64 y16, .string dat, .int .i64 (siz : Nat), .int .i64 y40, .int .i64 y44, .int .u64 y48, .int .u64 y56] 43))
            go_wp2_with (first | (at_builtin; refine wpList_app1 rfl _ _ 25 rfl w.heap.size 43 i0 (.agg #[.string ⟨#[]⟩, .int .i64 0, .int .u64 0, .int .u64 0, .string ⟨#[]⟩, .int .i64 0, .int .i64 0, .int .i64 0, .int .u64 0, .int .u64 0]) 10 96 Try.underlying25 hinf hz0 hz1 hz2 rfl (by decide) (.slice ao j cp) j _ rfl (HBA.out.own HOD.out) wd.heap.size #[.string ⟨#[]⟩, .int .i64 y4, .int .u64 y8, .int .u64 y16, .string dat, .int .i64 (siz : Nat), .int .i64 y40, .int .i64 y44, .int .u64 y48, .int .u64 y56] rfl (Has.new wd _ _) rfl (by intro u hu; simp at hu; rcases hu with rfl | rfl | rfl | rfl | rfl | rfl | rfl | rfl | rfl | rfl <;> rfl) (by unfold maxLen; omega) (by omega) (Nat.le_trans HWD.out.size (by simp)) ?_; intro ao8 cp8 w8 hown8 hgrow8; have HO8 := hid hown8; have HU8 := hid (own_other (HBA.out.own HUD.out) (HBA.out.own HOD.out) (by decide) hgrow8); have HB8 := hid (show Bw w w8 from own_bw (HWD.out.trans HBA.out) (HBA.out.own HOD.out) hgrow8); clear hown8 hgrow8) | (go_at_call 22; with_reducible (first | refine (N0.out _).mono ?_); rintro e w2 ⟨rfl, rfl⟩) | (at_builtin; refine wpList_app1 rfl _ _ 55 rfl w.heap.size 23 j0 (.int .u64 0) 1 8 Try.underlying55 jinf jz0 jz1 jz2 rfl (by decide) (.slice bo j cn) j _ rfl (((Bw.refl w8).alloc _).own HU8.out) w8.heap.size #[.int .u64 y0] rfl (Has.new w8 _ _) rfl (by intro u hu; simp at hu; rcases hu with rfl; rfl) (by unfold maxLen; omega) (by omega) (Nat.le_trans HB8.out.size (by simp)) ?_; intro ao9 cp9 w9 hown9 hgrow9; have HU9 := hid hown9; have HO9 := hid (own_other (((Bw.refl w8).alloc _).own HO8.out) (((Bw.refl w8).alloc _).own HU8.out) (by decide) hgrow9); have HB9 := hid (show Bw w w9 from own_bw (HB8.out.trans ((Bw.refl w8).alloc _)) (((Bw.refl w8).alloc _).own HU8.out) hgrow9); clear hown9 hgrow9))
            exact ⟨⟨j + 1, ao8, cp8, ao9, cp9, by have := HI.out; omega, by rw [← HI.out]; go_num, rfl, rfl, hid (fun q hq => by
              by_cases e : q = j
              · subst e; rw [HI.out, HH.out]; exact HE0.out
              · exact HA.out q (by omega)), by
              unfold rawL
              rw [List.range_succ, List.map_append, secCells_app, show List.map (fun i => secC s (p + 64 * (i + 1)) ⟨#[]⟩ (secD s (p + 64 * (i + 1)))) [j] = [(⟨⟨#[]⟩, y4, y8, y16, dat, siz, y40, y44, y48, y56⟩ : SecR)] from by rw [List.map_cons, List.map_nil, HI.out, HH.out, HSC.out, HDAT.out, HSIZ.out]]
              exact HO9.out, by
              unfold namV
              rw [List.range_succ, List.map_append, show List.map (fun i => Value.int .u64 (n4 s (p + 64 * (i + 1)) : Nat)) [j] = [.int .u64 y0] from by rw [List.map_cons, List.map_nil, HI.out, HH.out, HYY.out]]
              exact HU9.out, HB9.out⟩, by have := HI.out; simp [intOf]; omega⟩
          · have t8 : ((y4 : Int) == 8) = false := by rw [beq_eq_false_iff_ne]; omega
            by_cases g3 : y24 + y32 ≤ s.size
            case neg =>
              have HE3 := hid (HAJ.out 2 (by rw [HSE.out, if_neg (by unfold great; omega), if_pos ⟨h8, by omega⟩]) (by decide))
              rw [decide_eq_false g3] at HST
              clear g3 h8
              go_wp2_with (first | (go_at_call 22; with_reducible (first | refine (N24.out _).mono ?_ | refine (N32.out _).mono ?_); rintro e w2 ⟨rfl, rfl⟩) | (go_at_call 23; refine (HST.out _).mono ?_; rintro e w2 ⟨rfl, rfl⟩))
              go_returns
              exact HBD.out _ _ 2 HW0.out HZ64.out HE3.out (by decide) rfl
            rw [decide_eq_true g3] at HST
            have HE0 := hid (show secE s h = 0 from by rw [HSE.out, if_neg (by unfold great; omega), if_neg (fun h => by omega)])
            obtain ⟨dat, hdat⟩ : ∃ d : ByteArray, s.extract y24 (y24 + y32) = d := ⟨_, rfl⟩
            have HDD := hid hdat
            obtain ⟨siz, hsiz⟩ : ∃ d : Nat, 0 = d := ⟨_, rfl⟩
            have HDAT := hid (show secD s h = dat from by rw [HSD.out, if_neg h8, hdat])
            have HSIZ := hid (show secZ s h = siz from by rw [HSZ.out, if_neg h8, hsiz])
            have c4 : wx.cell? ⟨xb, 4, none⟩ = some (.string ⟨#[]⟩) := HX0.out.cell 4
            have f4 := HX0.out.frozen 4
            have HXD := hid (show Has (wx.setCell ⟨xb, 4, none⟩ (.string dat)) xb 43 #[.string ⟨#[]⟩, .int .i64 y4, .int .u64 y8, .int .u64 y16, .string dat, .int .i64 (siz : Nat), .int .i64 y40, .int .i64 y44, .int .u64 y48, .int .u64 y56] from by
              have q := HX0.out.put 4 (.string dat)
              rw [← hsiz]
              exact q)
            have HWD := hid (show Bw w (wx.setCell ⟨xb, 4, none⟩ (.string dat)) from Below.setCell (p := ⟨xb, 4, none⟩) HW0.out HSZB.out _)
            have HOD := hid (own_keep HO0.out (w' := wx.setCell ⟨xb, 4, none⟩ (.string dat)) fun b hb => Below.heap_setCell wx ⟨xb, 4, none⟩ _ b (fun e => by have := HOL.out b hb; have e2 : b = xb := e; omega))
            have HUD := hid (own_keep HU0.out (w' := wx.setCell ⟨xb, 4, none⟩ (.string dat)) fun b hb => Below.heap_setCell wx ⟨xb, 4, none⟩ _ b (fun e => by have := HUL.out b hb; have e2 : b = xb := e; omega))
            have z1 : IntKind.u64.wrap ((y24 : Int) + (y32 : Int)) = ((y24 + y32 : Nat) : Int) := by rw [IntWalk.u64_in _ (by omega)]; omega
            have z2 : (y24 : Int) ≤ (y24 : Int) + (y32 : Int) := by omega
            have z3 : (y24 : Int) + (y32 : Int) ≤ (s.size : Int) := by omega
            clear h8 hdat hsiz
            go_upto_region 22 with (first | (go_at_call 22; with_reducible (first | refine (N24.out _).mono ?_ | refine (N32.out _).mono ?_); rintro e w2 ⟨rfl, rfl⟩) | (go_at_call 23; refine (HST.out _).mono ?_; rintro e w2 ⟨rfl, rfl⟩))
            rw [HDD.out]
            generalize wx.setCell ⟨xb, 4, none⟩ (.string dat) = wd at *
            clear c4 f4 x1 HX0 HW0 HO0 HU0 HOL HUL
            go_upto_region 22 with fail
            refine wp_region_list ?_
            refine wpList_plain rfl fun K hK => ?_
            go_simp
            refine hK _ _ ?_
            clear hK K
            refine wpList_load_mid rfl 43 (.tmp 14) rfl xb 0 rfl [.string ⟨#[]⟩, .int .i64 y4, .int .u64 y8, .int .u64 y16, .string dat, .int .i64 (siz : Nat), .int .i64 y40, .int .i64 y44, .int .u64 y48, .int .u64 y56] _ HXD.out.range Try.underlying43 rfl inf_Section ?_
            have HBA := hid ((Bw.refl wd).alloc (.cells #[.string ⟨#[]⟩, .int .i64 y4, .int .u64 y8, .int .u64 y16, .string dat, .int .i64 (siz : Nat), .int .i64 y40, .int .i64 y44, .int .u64 y48, .int .u64 y56] 43))
            go_wp2_with (first | (at_builtin; refine wpList_app1 rfl _ _ 25 rfl w.heap.size 43 i0 (.agg #[.string ⟨#[]⟩, .int .i64 0, .int .u64 0, .int .u64 0, .string ⟨#[]⟩, .int .i64 0, .int .i64 0, .int .i64 0, .int .u64 0, .int .u64 0]) 10 96 Try.underlying25 hinf hz0 hz1 hz2 rfl (by decide) (.slice ao j cp) j _ rfl (HBA.out.own HOD.out) wd.heap.size #[.string ⟨#[]⟩, .int .i64 y4, .int .u64 y8, .int .u64 y16, .string dat, .int .i64 (siz : Nat), .int .i64 y40, .int .i64 y44, .int .u64 y48, .int .u64 y56] rfl (Has.new wd _ _) rfl (by intro u hu; simp at hu; rcases hu with rfl | rfl | rfl | rfl | rfl | rfl | rfl | rfl | rfl | rfl <;> rfl) (by unfold maxLen; omega) (by omega) (Nat.le_trans HWD.out.size (by simp)) ?_; intro ao8 cp8 w8 hown8 hgrow8; have HO8 := hid hown8; have HU8 := hid (own_other (HBA.out.own HUD.out) (HBA.out.own HOD.out) (by decide) hgrow8); have HB8 := hid (show Bw w w8 from own_bw (HWD.out.trans HBA.out) (HBA.out.own HOD.out) hgrow8); clear hown8 hgrow8) | (go_at_call 22; with_reducible (first | refine (N0.out _).mono ?_); rintro e w2 ⟨rfl, rfl⟩) | (at_builtin; refine wpList_app1 rfl _ _ 55 rfl w.heap.size 23 j0 (.int .u64 0) 1 8 Try.underlying55 jinf jz0 jz1 jz2 rfl (by decide) (.slice bo j cn) j _ rfl (((Bw.refl w8).alloc _).own HU8.out) w8.heap.size #[.int .u64 y0] rfl (Has.new w8 _ _) rfl (by intro u hu; simp at hu; rcases hu with rfl; rfl) (by unfold maxLen; omega) (by omega) (Nat.le_trans HB8.out.size (by simp)) ?_; intro ao9 cp9 w9 hown9 hgrow9; have HU9 := hid hown9; have HO9 := hid (own_other (((Bw.refl w8).alloc _).own HO8.out) (((Bw.refl w8).alloc _).own HU8.out) (by decide) hgrow9); have HB9 := hid (show Bw w w9 from own_bw (HB8.out.trans ((Bw.refl w8).alloc _)) (((Bw.refl w8).alloc _).own HU8.out) hgrow9); clear hown9 hgrow9))
            exact ⟨⟨j + 1, ao8, cp8, ao9, cp9, by have := HI.out; omega, by rw [← HI.out]; go_num, rfl, rfl, hid (fun q hq => by
              by_cases e : q = j
              · subst e; rw [HI.out, HH.out]; exact HE0.out
              · exact HA.out q (by omega)), by
              unfold rawL
              rw [List.range_succ, List.map_append, secCells_app, show List.map (fun i => secC s (p + 64 * (i + 1)) ⟨#[]⟩ (secD s (p + 64 * (i + 1)))) [j] = [(⟨⟨#[]⟩, y4, y8, y16, dat, siz, y40, y44, y48, y56⟩ : SecR)] from by rw [List.map_cons, List.map_nil, HI.out, HH.out, HSC.out, HDAT.out, HSIZ.out]]
              exact HO9.out, by
              unfold namV
              rw [List.range_succ, List.map_append, show List.map (fun i => Value.int .u64 (n4 s (p + 64 * (i + 1)) : Nat)) [j] = [.int .u64 y0] from by rw [List.map_cons, List.map_nil, HI.out, HH.out, HYY.out]]
              exact HU9.out, HB9.out⟩, by have := HI.out; simp [intOf]; omega⟩
        · obtain rfl : n = i := by omega
          have HE := hid (show firstE (fun i => secE s (p + 64 * i)) (n - 1) 1 = 0 from first_all fun q h1 h2 => by
            have := HA.out (q - 1) (by omega)
            rw [show q - 1 + 1 = q by omega] at this
            exact this)
          have hnj : n - 1 = j := by omega
          rw [hnj] at HGD HE
          clear hnj
          go_wp2
          go_returns
          exact HGD.out _ _ ao cp bo cn HW.out HZ64.out HE.out rfl HO.out HU.out
end Go.Proofs.Ytciaebhkemdilaa

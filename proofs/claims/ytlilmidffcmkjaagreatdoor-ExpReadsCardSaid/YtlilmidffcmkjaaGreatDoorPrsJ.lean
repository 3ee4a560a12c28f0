/- The whole text is read; the panic that ends it recovered; Parse (contracts). -/
import Derived.Test.YtlilmidffcmkjaaGreatDoorPrsI
import Derived.Tactics
import Derived.Tactics2
import Derived.Defers
import Derived.Recover
import Derived.Laws.Pointers
namespace Go.Proofs.YtlilmidffcmkjaaGreatDoor
open Go.RowKit Go.Conc
set_option linter.unusedVariables false
set_option linter.unusedSimpArgs false
theorem run_assert_int {P : Program} {w : World} (t xT : TypeId) (k : IntKind) (v : Value) (h : P.underlying t = some (.int k)) : (Instr.typeAssert (.iface t v) xT t false).run P w = .ok v w := by
  simp [Instr.typeAssert, run_underlying h, go_sem, Result.andThen]
theorem catch_panicking (p : Addr) (x er : Int) (older : List PanicEntry) (w : World) (hc : w.cell? p = some (.int .i64 x)) (hz : w.frozen? p = false) :
    CallsD Tryz.prog 13 #[.pointer (some p)] (.panicking ({ v := .iface 23 (.int .i64 er), recovered := false } :: older)) w fun e u' w' =>
      e = .returned (.tuple #[]) ∧ u' = .panicking ({ v := .iface 23 (.int .i64 er), recovered := true } :: older) ∧ w' = w.setCell p (.int .i64 er) := by
  refine callsD_of_wpS Tryz.func13 rfl fun c₀ cs hu => ?_
  apply wpS_seq
  apply wpS_region
  simp [wpOpsS, go_sem, recoverD, hu, Tryz.ntmps13, Exit.thenS]
  apply wpS_seq
  apply wpS_region
  simp [wpOpsS, go_sem, Exit.thenS]
  refine wpS_cond (t := true) (by simp [Act.eval, Array.replicate]) ?_
  simp only [if_true]
  have hta := run_assert_int (P := Tryz.prog) (w := w) 23 20 .i64 (.int .i64 er) Tryz.underlying23
  apply wpS_region
  simp [wpOpsS, go_sem, hc, hz, hta, bodyPostS, results, Tryz.results13]
theorem catch_idle (p : Addr) (w : World) :
    CallsD Tryz.prog 13 #[.pointer (some p)] .returning w fun e u' w' => e = .returned (.tuple #[]) ∧ u' = .returning ∧ w' = w := by
  refine callsD_of_wpS Tryz.func13 rfl fun c₀ cs hu => ?_
  apply wpS_seq
  apply wpS_region
  simp [wpOpsS, go_sem, recoverD, hu, Tryz.ntmps13, Exit.thenS]
  apply wpS_seq
  apply wpS_region
  simp [wpOpsS, go_sem, Exit.thenS]
  refine wpS_cond (t := false) (by simp [Act.eval, Array.replicate]) ?_
  simp only [Bool.false_eq_true, if_false]
  refine wpS_of_wp (wp_skip ?_)
  cases c₀
  simp_all [bodyPostS, results, Tryz.results13]
theorem KT.fresh1 {T : List TypeId} {B nb : Nat} {a b : World} (h : KT T B a b) (hs : a.heap.size ≤ nb) (x : Value) : KT T B a (b.setCell ⟨nb, 0, none⟩ x) := h.fresh_at hs x
/-- What run leaves. -/
def RunP (w0 w : World) (g : Nat) (s : ByteArray) (e : Ending) (w' : World) : Prop :=
  KT TP w0.heap.size w w' ∧ match parseF s with
    | some l => e = .returned (.int .i64 0) ∧ ∃ v, PrsS w0 w' g s s.size 0 l v
    | none => e = .returned (.int .i64 8)
set_option maxRecDepth 100000 in
set_option maxHeartbeats 8000000 in
theorem run_any (w0 w : World) (g : Nat) (s : ByteArray) (hs20 : s.size ≤ 20000) (v : Value) (h : PrsS w0 w g s 0 0 [] v) (hE : ErrsAt w0) (hS : SgnAt w0) :
    Calls Tryz.prog 8 #[.pointer (some ⟨g, 0, none⟩)] w (RunP w0 w g s) := by
  have hmf : ∀ (fn : Fn) (first cap : Array Value) (w : World), (Instr.makeFunc fn first cap).run Tryz.prog w = .ok (.func fn first cap) w := fun _ _ _ _ => rfl
  have HW := hid (show Bw w (w.alloc (.cells #[.int .i64 0] 23)) from (Bw.refl w).alloc _)
  have HN := hid (Has.new w 23 #[.int .i64 0])
  have HS1 := hid (h.later HW.out)
  have HEX := hid (fun W (hW : PrsS w0 W g s 0 0 [] v) => pexpr_any w0 g s hs20 hE hS (s.size + 1) 1 0 0 [] (by omega) (by omega) (by omega) W v hW)
  have HGL := hid h.pr.lt
  have HW0 := hid h.bw.size
  have HRV := hid (fun b (hb : v.ownBlock = some b) => own_lt h.row hb)
  have hpf : parseF s = match ex s 1 0 0 [] with | some (_, k, l) => if k = s.size then some l else none | none => none := rfl
  have HPF := hid hpf
  obtain ⟨P, hP⟩ : ∃ P, RunP w0 w g s = P := ⟨_, rfl⟩
  have HPN := hid (fun (w' : World) (hk : KT TP w0.heap.size w w') (hp : parseF s = none) => (show P (.returned (.int .i64 8)) w' by rw [← hP]; exact ⟨hk, by rw [hp]⟩))
  have HPS := hid (fun (w' : World) (l : List ExpR) (v' : Value) (hk : KT TP w0.heap.size w w') (hp : parseF s = some l) (hs : PrsS w0 w' g s s.size 0 l v') => (show P (.returned (.int .i64 0)) w' by rw [← hP]; exact ⟨hk, by rw [hp]; exact ⟨rfl, v', hs⟩⟩))
  rw [hP]
  clear h hE hS hpf hP
  go_enter_defers Tryz.func8, Tryz.ntmps8
  go_wp2_with fail
  obtain ⟨nb, hnb⟩ : ∃ nb, w.heap.size = nb := ⟨_, rfl⟩
  rw [hnb] at HN ⊢
  have HNB := hid hnb
  generalize w.alloc (.cells #[.int .i64 0] 23) = W1 at *
  clear hnb
  refine (HEX.out W1 HS1.out).mono ?_
  rintro e w2 ⟨hk2, hx⟩
  have HK2 := hid ((KT.of_bw HW.out : KT TP w0.heap.size w W1).trans hk2)
  have HN2 := hid (hk2.has HN.out (by decide))
  have g0 : w2.cell? ⟨nb, 0, none⟩ = some (.int .i64 0) := HN2.out.cell 0
  have f0 : w2.frozen? ⟨nb, 0, none⟩ = false := HN2.out.frozen 0
  clear hk2
  have hsz0 : w.heap.size ≤ nb := by have := HNB.out; omega
  have HSZ := hid hsz0
  have HBAD : ∀ W : World, KT TP w0.heap.size w W → Has W nb 23 #[.int .i64 0] → parseF s = none → P (.returned (.int .i64 8)) (W.setCell ⟨nb, 0, none⟩ (.int .i64 8)) := fun W hk _ hp => HPN.out _ (hk.fresh1 HSZ.out _) hp
  have HBD := hid HBAD
  clear HBAD hsz0
  cases hex : ex s 1 0 0 [] with
  | none =>
    rw [hex] at hx
    obtain rfl := hx
    have HP := hid (HBD.out w2 HK2.out HN2.out (by rw [HPF.out, hex]))
    refine leaves_cons (f := 13) (args := #[.pointer (some ⟨nb, 0, none⟩)]) (by simp) (by simp [go_sem]) ?_
    refine (catch_panicking ⟨nb, 0, none⟩ 0 8 [] _ g0 f0).mono ?_
    rintro e u' w'' ⟨rfl, rfl, rfl⟩
    have h1 : (w2.setCell ⟨nb, 0, none⟩ (.int .i64 8)).cell? ⟨nb, 0, none⟩ = some (.int .i64 8) := (HN2.out.put 0 (.int .i64 8)).cell 0
    generalize w2.setCell ⟨nb, 0, none⟩ (.int .i64 8) = W3 at *
    simp [Leaves, settle, results, Tryz.results8, go_sem, h1]
    exact HP.out
  | some y =>
    obtain ⟨i, k2, l2⟩ := y
    rw [hex] at hx
    obtain ⟨rfl, hi, v2, hs2⟩ := hx
    have HS2 := hid hs2
    have c0 := hs2.pr.cell 0
    simp at c0
    have hks2 := hs2.ks
    clear hs2 hi
    by_cases hk : k2 = s.size
    · subst hk
      have HPR := hid (show parseF s = some l2 from by rw [HPF.out, hex]; exact if_pos rfl)
      rw [dropS_nil (Nat.le_refl _)] at c0
      have HNE := hid (fun b (hb : v2.ownBlock = some b) => (show b ≠ nb from fun e => by subst e; exact own_ne_has HS2.out.row HN2.out (by decide) hb))
      have h1 : (w2.setCell ⟨nb, 0, none⟩ (.int .i64 0)).cell? ⟨nb, 0, none⟩ = some (.int .i64 0) := (HN2.out.put 0 (.int .i64 0)).cell 0
      have HS3 := hid (HS2.out.far HN2.out (by decide) (by decide) (by have := HW0.out; have := HSZ.out; omega) 0 (.int .i64 0))
      have HK3 := hid (HK2.out.fresh1 HSZ.out (.int .i64 0))
      have HP := hid (HPS.out _ l2 v2 HK3.out HPR.out HS3.out)
      clear hex hks2
      unfold nilS at c0
      go_wp2_with fail
      refine (demand_ok _).mono ?_
      rintro e w3 ⟨rfl, rfl⟩
      go_wp2
      refine leaves_cons (f := 13) (args := #[.pointer (some ⟨nb, 0, none⟩)]) (by simp) (by simp [go_sem]) ?_
      refine (catch_idle ⟨nb, 0, none⟩ _).mono ?_
      rintro e u' w'' ⟨rfl, rfl, rfl⟩
      generalize w3.setCell ⟨nb, 0, none⟩ (.int .i64 0) = W3 at *
      simp [Leaves, settle, results, Tryz.results8, go_sem, h1]
      exact HP.out
    · have HP := hid (HBD.out w2 HK2.out HN2.out (by rw [HPF.out, hex]; exact if_neg hk))
      have hdn : dropS s k2 ≠ ⟨#[]⟩ := fun e => by have h1 := dropS_size s k2; rw [e] at h1; have h2 : (⟨#[]⟩ : ByteArray).size = 0 := rfl; omega
      have t0 := toList_ne _ hdn
      have t1 : ((dropS s k2).toList == (⟨#[]⟩ : ByteArray).toList) = false := str_ne hdn
      generalize dropS s k2 = d at *
      clear hex hk hks2
      go_wp2_with fail
      refine (demand_bad _).mono ?_
      rintro e w3 ⟨rfl, rfl⟩
      refine leaves_cons (f := 13) (args := #[.pointer (some ⟨nb, 0, none⟩)]) (by simp) (by simp [go_sem]) ?_
      refine (catch_panicking ⟨nb, 0, none⟩ 0 8 [] _ g0 f0).mono ?_
      rintro e u' w'' ⟨rfl, rfl, rfl⟩
      have h1 : (w3.setCell ⟨nb, 0, none⟩ (.int .i64 8)).cell? ⟨nb, 0, none⟩ = some (.int .i64 8) := (HN2.out.put 0 (.int .i64 8)).cell 0
      generalize w3.setCell ⟨nb, 0, none⟩ (.int .i64 8) = W3 at *
      simp [Leaves, settle, results, Tryz.results8, go_sem, h1]
      exact HP.out
/-- What Parse leaves. -/
def ParseP (s : ByteArray) (w : World) (e : Ending) (w' : World) : Prop :=
  Bw w w' ∧ if 20000 < s.size then e = .returned (.tuple #[.slice none 0 0, .int .i64 11]) else match parseF s with
    | some l => ∃ a c, e = .returned (.tuple #[.slice a l.length c, .int .i64 0]) ∧ w'.ownsRow w.heap.size 42 5 (.slice a l.length c) l.length (expCells l) ∧ (∀ o ∈ l, o.Ok) ∧ l.length ≤ 400
    | none => e = .returned (.tuple #[.slice none 0 0, .int .i64 8])
set_option maxRecDepth 100000 in
set_option maxHeartbeats 8000000 in
theorem parse_any (s : ByteArray) (hs : s.size ≤ 9223372036854775807) (w : World) (hE : ErrsAt w) (hS : SgnAt w) :
    Calls Tryz.prog 4 #[.string s] w (ParseP s w) := by
  by_cases h20 : 20000 < s.size
  · have HP := hid (show ParseP s w (.returned (.tuple #[.slice none 0 0, .int .i64 11])) w from ⟨Bw.refl w, by rw [if_pos h20]⟩)
    have i1 : (20000 : Int) < s.size := by omega
    clear h20
    go_enter Tryz.func4, Tryz.ntmps4
    go_wp2
    go_returns
    exact HP.out
  · have i1 : ¬ (20000 : Int) < s.size := by omega
    have HA := hid ((Bw.refl w).alloc (.cells #[.string s, .int .i64 0, .slice none 0 0] 31))
    have HN := hid (Has.new w 31 #[.string s, .int .i64 0, .slice none 0 0])
    have HS1 := hid (show PrsS w (w.alloc (.cells #[.string s, .int .i64 0, .slice none 0 0] 31)) w.heap.size s 0 0 [] (.slice none 0 0) from
      ⟨by rw [dropS_0]; exact HN.out, World.ownsRow_nil _ _ _ _, HA.out, Nat.le_refl _, Nat.zero_le _, fun o h => (by cases h), Nat.zero_le _, Nat.zero_le _⟩)
    have HR := hid (run_any w _ w.heap.size s (by omega) (.slice none 0 0) HS1.out hE hS)
    have HQ := hid (fun (e : Ending) (w' : World) (hb : Bw w w') (q : match parseF s with
      | some l => ∃ a c, e = .returned (.tuple #[.slice a l.length c, .int .i64 0]) ∧ w'.ownsRow w.heap.size 42 5 (.slice a l.length c) l.length (expCells l) ∧ (∀ o ∈ l, o.Ok) ∧ l.length ≤ 400
      | none => e = .returned (.tuple #[.slice none 0 0, .int .i64 8])) => (show ParseP s w e w' from ⟨hb, by rw [if_neg h20]; exact q⟩))
    clear h20 hE hS
    go_enter Tryz.func4, Tryz.ntmps4
    go_wp2_with fail
    refine HR.out.mono ?_
    rintro e w2 ⟨hk2, hx⟩
    have HB2 := hid (show Bw w w2 from Below.trans HA.out (hk2.below (Nat.le_refl _) HA.out.size))
    clear hk2
    cases hp : parseF s with
    | none =>
      rw [hp] at hx
      obtain rfl := hx
      have HQ2 := hid (HQ.out (.returned (.tuple #[.slice none 0 0, .int .i64 8])) w2 HB2.out (by rw [hp]))
      clear hp
      go_wp2
      go_returns
      exact HQ2.out
    | some l =>
      rw [hp] at hx
      obtain ⟨rfl, v, hs2⟩ := hx
      obtain ⟨a, c, rfl⟩ := own_slice hs2.row
      have HS2 := hid hs2
      have c2 := hs2.pr.cell 2
      simp at c2
      have HQ2 := hid (HQ.out (.returned (.tuple #[.slice a l.length c, .int .i64 0])) w2 HB2.out (by rw [hp]; exact ⟨a, c, rfl, HS2.out.row, HS2.out.ok, HS2.out.few⟩))
      clear hp hs2
      go_wp2
      go_returns
      exact HQ2.out
end Go.Proofs.YtlilmidffcmkjaaGreatDoor

/- Read, and the panic that ends it recovered (contracts of the functions). -/
import Derived.Test.YtciaebhkemdilaaElfJ
import Derived.Tactics
import Derived.Tactics2
import Derived.Defers
import Derived.Recover
import Derived.Laws.Pointers
namespace Go.Proofs.Ytciaebhkemdilaa
open Go.RowKit Go.Conc
set_option linter.unusedVariables false
set_option linter.unusedSimpArgs false
theorem run_assert_int {P : Program} {w : World} (t xT : TypeId) (k : IntKind) (v : Value) (h : P.underlying t = some (.int k)) : (Instr.typeAssert (.iface t v) xT t false).run P w = .ok v w := by
  simp [Instr.typeAssert, run_underlying h, go_sem, Result.andThen]
theorem catch_panicking (p : Addr) (x er : Int) (older : List PanicEntry) (w : World) (hc : w.cell? p = some (.int .i64 x)) (hz : w.frozen? p = false) :
    CallsD Try.prog 41 #[.pointer (some p)] (.panicking ({ v := .iface 28 (.int .i64 er), recovered := false } :: older)) w fun e u' w' =>
      e = .returned (.tuple #[]) ∧ u' = .panicking ({ v := .iface 28 (.int .i64 er), recovered := true } :: older) ∧ w' = w.setCell p (.int .i64 er) := by
  refine callsD_of_wpS Try.func41 rfl fun c₀ cs hu => ?_
  apply wpS_seq
  apply wpS_region
  simp [wpOpsS, go_sem, recoverD, hu, Try.ntmps41, Exit.thenS]
  apply wpS_seq
  apply wpS_region
  simp [wpOpsS, go_sem, Exit.thenS]
  refine wpS_cond (t := true) (by simp [Act.eval, Array.replicate]) ?_
  simp only [if_true]
  have hta := run_assert_int (P := Try.prog) (w := w) 28 20 .i64 (.int .i64 er) Try.underlying28
  apply wpS_region
  simp [wpOpsS, go_sem, hc, hz, hta, bodyPostS, results, Try.results41]
theorem catch_idle (p : Addr) (w : World) :
    CallsD Try.prog 41 #[.pointer (some p)] .returning w fun e u' w' => e = .returned (.tuple #[]) ∧ u' = .returning ∧ w' = w := by
  refine callsD_of_wpS Try.func41 rfl fun c₀ cs hu => ?_
  apply wpS_seq
  apply wpS_region
  simp [wpOpsS, go_sem, recoverD, hu, Try.ntmps41, Exit.thenS]
  apply wpS_seq
  apply wpS_region
  simp [wpOpsS, go_sem, Exit.thenS]
  refine wpS_cond (t := false) (by simp [Act.eval, Array.replicate]) ?_
  simp only [Bool.false_eq_true, if_false]
  refine wpS_of_wp (wp_skip ?_)
  cases c₀
  simp_all [bodyPostS, results, Try.results41]
/-- A model, as its parts lie in memory. -/
def elfV (m : ElfR) (a : Option Addr) (c : Nat) (b : Option Addr) (d : Nat) : Array Value := #[.int .i64 m.typ, .int .i64 m.mac, .int .u64 m.ent, .int .i64 m.flg, .slice a m.segs.length c, .slice b m.secs.length d]
/-- Its parts' rows, whole. -/
def ElfOwn (w : World) (m : ElfR) (a : Option Addr) (c : Nat) (b : Option Addr) (d : Nat) : Prop :=
  w.ownsRow 0 61 8 (.slice a m.segs.length c) m.segs.length (segCells m.segs) ∧ w.ownsRow 0 43 10 (.slice b m.secs.length d) m.secs.length (secCells m.secs) ∧ (∀ o ∈ m.segs, o.Ok) ∧ (∀ o ∈ m.secs, o.Ok)
theorem own0 {w : World} {B z n : Nat} {t : TypeId} {v : Value} {xs : List Value} (h : w.ownsRow B t z v n xs) : w.ownsRow 0 t z v n xs := by
  refine ⟨h.1, ?_⟩
  rcases h.2 with h2 | ⟨g, cap, cur, h1, h2, h3⟩
  · exact .inl h2
  · exact .inr ⟨g, cap, cur, h1, Nat.zero_le _, h3⟩
theorem ElfOwn.keep {w w' : World} {m : ElfR} {a b : Option Addr} {c d g : Nat} {t : TypeId} {cs : Array Value} (h : ElfOwn w m a c b d) (hg : Has w g t cs) (h1 : 61 ≠ t) (h2 : 43 ≠ t) (hk : ∀ i, i < w.heap.size → i ≠ g → w'.heap[i]? = w.heap[i]?) : ElfOwn w' m a c b d :=
  ⟨own_keep h.1 fun k hb => hk k (own_lt h.1 hb) (fun e => own_ne_has h.1 hg h1 (by rw [hb, e])), own_keep h.2.1 fun k hb => hk k (own_lt h.2.1 hb) (fun e => own_ne_has h.2.1 hg h2 (by rw [hb, e])), h.2.2⟩
theorem ElfOwn.bw {w w' : World} {m : ElfR} {a b : Option Addr} {c d : Nat} (h : ElfOwn w m a c b d) (hb : Bw w w') : ElfOwn w' m a c b d := ⟨hb.own h.1, hb.own h.2.1, h.2.2⟩
def ElfAt (w : World) (m : ElfR) (a b : Option Addr) : Prop := SegAt w a m.segs ∧ SecAt w b m.secs
theorem ElfOwn.at {w : World} {m : ElfR} {a b : Option Addr} {c d : Nat} (h : ElfOwn w m a c b d) : ElfAt w m a b := ⟨SegAt.of_own h.1 h.2.2.1, SecAt.of_own h.2.1 h.2.2.2⟩
theorem readM_ok {s : ByteArray} (h : readE s = 0) : readM s = modelP s := by unfold readM; rw [if_pos h]
theorem readM_bad {s : ByteArray} (h : readE s ≠ 0) : readM s = zeroM := by unfold readM; rw [if_neg h]
/-- What Read$1 leaves: the model in its box, or a panic. -/
def Rd1Q (s : ByteArray) (mb : Nat) (w : World) (e : Ending) (w' : World) : Prop :=
  Keeps (· = mb) w w' ∧ ((readE s = 0 ∧ e = .returned (.tuple #[]) ∧ ∃ a c b d, Has w' mb 27 (elfV (readM s) a c b d) ∧ ElfOwn w' (readM s) a c b d) ∨ (readE s ≠ 0 ∧ e = pan (readE s) ∧ Has w' mb 27 zElf))
set_option maxRecDepth 100000 in
set_option maxHeartbeats 4000000 in
theorem read1_any (s : ByteArray) (hs : s.size ≤ 100000000) (sb mb : Nat) (w : World) (h1 : Has w sb 9 #[.string s]) (h2 : Has w mb 27 zElf) :
    Calls Try.prog 19 #[.pointer (some ⟨sb, 0, none⟩), .pointer (some ⟨mb, 0, none⟩)] w (Rd1Q s mb w) := by
  have HMO := hid (fun W => model_any s hs W)
  have HOF := hid (fun W => of_any s W)
  have H2 := hid h2
  have c0 : w.cell? ⟨sb, 0, none⟩ = some (.string s) := h1.cell 0
  have HGD := hid (fun e w' (hk : Keeps (· = mb) w w') (h : readE s = 0) (he : e = .returned (.tuple #[])) (x : ∃ a c b d, Has w' mb 27 (elfV (readM s) a c b d) ∧ ElfOwn w' (readM s) a c b d) => (show Rd1Q s mb w e w' from ⟨hk, .inl ⟨h, he, x⟩⟩))
  have HBD := hid (fun e w' (hk : Keeps (· = mb) w w') (h : readE s ≠ 0) (he : e = pan (readE s)) (x : Has w' mb 27 zElf) => (show Rd1Q s mb w e w' from ⟨hk, .inr ⟨h, he, x⟩⟩))
  clear h1 h2
  go_enter Try.func19, Try.ntmps19
  go_wp2_with fail
  refine (HOF.out _).mono ?_
  rintro e w2 ⟨rfl, hb2⟩
  have HB2 := hid hb2
  clear hb2 c0
  go_wp2_with fail
  refine (HMO.out _).mono ?_
  rintro e w3 ⟨hb3, hx⟩
  have HB3 := hid (HB2.out.trans hb3)
  have H3 := hid (HB3.out.has H2.out)
  rename_i Kx hKx
  clear hb3
  rcases hx with ⟨hE, a, c, b, d, rfl, hsg, hsc⟩ | ⟨hE, rfl⟩
  case inr => exact ⟨rfl, HBD.out _ _ (.of_bw HB3.out) hE rfl H3.out⟩
  have HE := hid hE
  have HSG := hid hsg
  have HSC := hid hsc
  clear hE hsg hsc
  have HPN := hid (H3.out.set [.int .i64 (n2 s 16), .int .i64 (n2 s 18), .int .u64 (n8 s 24), .int .i64 (n4 s 48), .slice a (nSeg s) c, .slice b (nSec s - 2) d] rfl)
  have HKN := hid (show Keeps (· = mb) w (w3.setCells mb 0 [.int .i64 (n2 s 16), .int .i64 (n2 s 18), .int .u64 (n8 s 24), .int .i64 (n4 s 48), .slice a (nSeg s) c, .slice b (nSec s - 2) d]) from (Keeps.of_bw HB3.out).trans (by
    rw [setCells_put]
    have hb := putL_below (B := 0) (g := mb) (Nat.zero_le _) (l := [.int .i64 (n2 s 16), .int .i64 (n2 s 18), .int .u64 (n8 s 24), .int .i64 (n4 s 48), .slice a (nSeg s) c, .slice b (nSec s - 2) d]) (i := 0) (Below.refl 0 w3)
    exact ⟨hb.os, hb.tape, hb.output, by rw [putL_size]; exact Nat.le_refl _, fun i _ hn => putL_heap hn⟩))
  have hml : mb < w2.heap.size := Nat.lt_of_lt_of_le H2.out.lt HB2.out.size
  have HSG2 := hid (own_keep HSG.out (w' := w3.setCells mb 0 [.int .i64 (n2 s 16), .int .i64 (n2 s 18), .int .u64 (n8 s 24), .int .i64 (n4 s 48), .slice a (nSeg s) c, .slice b (nSec s - 2) d]) fun b hb => by
    rw [setCells_put]
    exact putL_heap (fun e => by have := own_ge HSG.out hb; omega))
  have HSC2 := hid (own_keep HSC.out (w' := w3.setCells mb 0 [.int .i64 (n2 s 16), .int .i64 (n2 s 18), .int .u64 (n8 s 24), .int .i64 (n4 s 48), .slice a (nSeg s) c, .slice b (nSec s - 2) d]) fun b hb => by
    rw [setCells_put]
    exact putL_heap (fun e => by have := own_ge HSC.out hb; omega))
  have HZS := hid (show (segL s).length = nSeg s from by unfold segL; simp)
  have HZE := hid (show (secL s).length = nSec s - 2 from by unfold secL; simp)
  have HIS := hid (read_is0 HE.out)
  refine hKx _ _ ?_
  clear hKx hml
  refine wpList_store_mid rfl 27 (.tmp 1) (.tmp 5) rfl mb 0 #[.int .i64 (n2 s 16), .int .i64 (n2 s 18), .int .u64 (n8 s 24), .int .i64 (n4 s 48), .slice a (nSeg s) c, .slice b (nSec s - 2) d] rfl rfl (H3.out.there 6 (Nat.le_refl _)) inf_Elf (by simp only [List.all_toArray, List.all_cons, List.all_nil]; rfl) ?_
  change wpList _ _ _ _ _ (w3.setCells mb 0 [.int .i64 (n2 s 16), .int .i64 (n2 s 18), .int .u64 (n8 s 24), .int .i64 (n4 s 48), .slice a (nSeg s) c, .slice b (nSec s - 2) d])
  generalize w3.setCells mb 0 [.int .i64 (n2 s 16), .int .i64 (n2 s 18), .int .u64 (n8 s 24), .int .i64 (n4 s 48), .slice a (nSeg s) c, .slice b (nSec s - 2) d] = w4 at *
  go_wp2
  go_returns
  refine HGD.out _ _ HKN.out HE.out rfl ⟨a, c, b, d, ?_, ?_⟩
  · rw [readM_ok HE.out]
    unfold elfV modelP
    rw [HZS.out, HZE.out]
    exact HPN.out
  · rw [readM_ok HE.out]
    exact ⟨by
      show w4.ownsRow 0 _ _ (.slice a (segL s).length c) (segL s).length _
      rw [HZS.out]; exact own0 HSG2.out, by
      show w4.ownsRow 0 _ _ (.slice b (secL s).length d) (secL s).length _
      rw [HZE.out]; exact own0 HSC2.out, segL_ok HIS.out.2.2.1, secL_ok hs HIS.out.2.2.2.2.1⟩
/-- What caught leaves. -/
def CauQ (s : ByteArray) (mb : Nat) (w : World) (e : Ending) (w' : World) : Prop :=
  Keeps (· = mb) w w' ∧ e = .returned (.int .i64 (readE s)) ∧ ((readE s = 0 ∧ ∃ a c b d, Has w' mb 27 (elfV (readM s) a c b d) ∧ ElfOwn w' (readM s) a c b d) ∨ (readE s ≠ 0 ∧ Has w' mb 27 zElf))
theorem Keeps.new1 {F : Nat → Prop} {a b : World} {n : Nat} (h : Keeps F a b) (hn : a.heap.size ≤ n) (x : Value) : Keeps F a (b.setCell ⟨n, 0, none⟩ x) := h.setCell (p := ⟨n, 0, none⟩) (.inr hn) x
set_option maxRecDepth 100000 in
set_option maxHeartbeats 4000000 in
theorem caught_any (s : ByteArray) (hs : s.size ≤ 100000000) (sb mb : Nat) (w : World) (h1 : Has w sb 9 #[.string s]) (h2 : Has w mb 27 zElf) :
    Calls Try.prog 18 #[.func (.func 19) #[] #[.pointer (some ⟨sb, 0, none⟩), .pointer (some ⟨mb, 0, none⟩)]] w (CauQ s mb w) := by
  have hmf : ∀ (fn : Fn) (first cap : Array Value) (w : World), (Instr.makeFunc fn first cap).run Try.prog w = .ok (.func fn first cap) w := fun _ _ _ _ => rfl
  have HW := hid (show Bw w (w.alloc (.cells #[.int .i64 0] 28)) from (Bw.refl w).alloc _)
  have HN := hid (Has.new w 28 #[.int .i64 0])
  have H1 := hid (HW.out.has h1)
  have H2 := hid (HW.out.has h2)
  have HLT := hid h2.lt
  clear h1 h2
  go_enter_defers Try.func18, Try.ntmps18
  go_wp2_with fail
  have HEQ := hid (fun e w' (hk : Keeps (· = mb) w w') (he : e = .returned (.int .i64 (readE s))) (x : (readE s = 0 ∧ ∃ a c b d, Has w' mb 27 (elfV (readM s) a c b d) ∧ ElfOwn w' (readM s) a c b d) ∨ (readE s ≠ 0 ∧ Has w' mb 27 zElf)) => (show CauQ s mb w e w' from ⟨hk, he, x⟩))
  obtain ⟨nb, hnb⟩ : ∃ nb, w.heap.size = nb := ⟨_, rfl⟩
  have HNB := hid hnb
  rw [hnb] at HN HLT
  generalize w.alloc (.cells #[.int .i64 0] 28) = W1 at *
  have HR1 := hid (read1_any s hs sb mb W1 H1.out H2.out)
  rw [hnb]
  clear hnb
  refine HR1.out.mono ?_
  rintro e w2 ⟨hk2, hx⟩
  have HK2 := hid ((Keeps.of_bw (F := (· = mb)) HW.out).trans hk2)
  have HN2 := hid (hk2.has HN.out (show ¬ nb = mb by have := HLT.out; omega))
  have g0 : w2.cell? ⟨nb, 0, none⟩ = some (.int .i64 0) := HN2.out.cell 0
  have f0 : w2.frozen? ⟨nb, 0, none⟩ = false := HN2.out.frozen 0
  clear hk2
  rcases hx with ⟨hE, rfl, a, c, b, d, hm, hat⟩ | ⟨hE, rfl, hm⟩
  · have h1 : (w2.setCell ⟨nb, 0, none⟩ (.int .i64 0)).cell? ⟨nb, 0, none⟩ = some (.int .i64 0) := (HN2.out.put 0 (.int .i64 0)).cell 0
    have HP := hid (HEQ.out (.returned (.int .i64 (readE s))) (w2.setCell ⟨nb, 0, none⟩ (.int .i64 0)) (HK2.out.new1 (by rw [HNB.out]; exact Nat.le_refl _) _) rfl (.inl ⟨hE, a, c, b, d, hm.far (p := ⟨nb, 0, none⟩) (show mb ≠ nb by have := HLT.out; omega) _, hat.keep HN2.out (by decide) (by decide) (fun i _ hn => Below.heap_setCell w2 ⟨nb, 0, none⟩ _ i hn)⟩))
    rw [hE] at HP
    clear hm hat hE
    go_wp2
    refine leaves_cons (f := 41) (args := #[.pointer (some ⟨nb, 0, none⟩)]) (by simp) (by simp [go_sem]) ?_
    refine (catch_idle ⟨nb, 0, none⟩ _).mono ?_
    rintro e u' w'' ⟨rfl, rfl, rfl⟩
    generalize w2.setCell ⟨nb, 0, none⟩ (.int .i64 0) = W3 at *
    simp [Leaves, settle, results, Try.results18, go_sem, h1]
    exact HP.out
  · refine leaves_cons (f := 41) (args := #[.pointer (some ⟨nb, 0, none⟩)]) (by simp) (by simp [go_sem]) ?_
    refine (catch_panicking ⟨nb, 0, none⟩ 0 (readE s) [] _ g0 f0).mono ?_
    rintro e u' w'' ⟨rfl, rfl, rfl⟩
    have h1 : (w2.setCell ⟨nb, 0, none⟩ (.int .i64 (readE s))).cell? ⟨nb, 0, none⟩ = some (.int .i64 (readE s)) := (HN2.out.put 0 (.int .i64 (readE s))).cell 0
    have HP := hid (HEQ.out (.returned (.int .i64 (readE s))) (w2.setCell ⟨nb, 0, none⟩ (.int .i64 (readE s))) (HK2.out.new1 (by rw [HNB.out]; exact Nat.le_refl _) _) rfl (.inr ⟨hE, hm.far (p := ⟨nb, 0, none⟩) (show mb ≠ nb by have := HLT.out; omega) _⟩))
    generalize w2.setCell ⟨nb, 0, none⟩ (.int .i64 (readE s)) = W3 at *
    simp [Leaves, settle, results, Try.results18, go_sem, h1]
    exact HP.out
/-- What Read tells. -/
def ReadQ (s : ByteArray) (w : World) (e : Ending) (w' : World) : Prop :=
  Bw w w' ∧ ∃ a c b d, e = .returned (.tuple #[.agg (elfV (readM s) a c b d), .int .i64 (readE s)]) ∧ ElfOwn w' (readM s) a c b d
theorem zero_own (w : World) : ElfOwn w zeroM none 0 none 0 := ⟨⟨rfl, .inl ⟨rfl, rfl⟩⟩, ⟨rfl, .inl ⟨rfl, rfl⟩⟩, fun o ho => (by cases ho), fun o ho => (by cases ho)⟩
set_option maxRecDepth 100000 in
set_option maxHeartbeats 4000000 in
theorem read_any (s : ByteArray) (hs : s.size ≤ 100000000) (w : World) :
    Calls Try.prog 10 #[.string s] w (ReadQ s w) := by
  have HS1 := hid (Has.new w 9 #[.string s])
  have HR2 := hid (Has.new (w.alloc (.cells #[.string s] 9)) 27 zElf)
  have HS2 := hid (HS1.out.alloc (.cells zElf 27))
  have HM3 := hid (Has.new ((w.alloc (.cells #[.string s] 9)).alloc (.cells zElf 27)) 27 zElf)
  have HS3 := hid (HS2.out.alloc (.cells zElf 27))
  have HR3 := hid (HR2.out.alloc (.cells zElf 27))
  have HB3 := hid ((((Bw.refl w).alloc (.cells #[.string s] 9)).alloc (.cells zElf 27)).alloc (.cells zElf 27))
  obtain ⟨sb, hsb⟩ : ∃ sb, w.heap.size = sb := ⟨_, rfl⟩
  have HSB := hid hsb
  simp only [World.size_alloc, hsb] at HR3 HM3 HS3
  clear HS1 HR2 HS2
  unfold zElf at HR3 HM3 HB3 HS3
  have HQ := hid (fun e w' (hb : Bw w w') (x : ∃ a c b d, e = .returned (.tuple #[.agg (elfV (readM s) a c b d), .int .i64 (readE s)]) ∧ ElfOwn w' (readM s) a c b d) => (show ReadQ s w e w' from ⟨hb, x⟩))
  have hmf : ∀ (fn : Fn) (first cap : Array Value) (w : World), (Instr.makeFunc fn first cap).run Try.prog w = .ok (.func fn first cap) w := fun _ _ _ _ => rfl
  go_enter Try.func10, Try.ntmps10
  go_wp2_with fail
  generalize ((w.alloc (.cells #[.string s] 9)).alloc _).alloc _ = w3 at *
  have HCA := hid (caught_any s hs sb (sb + 1 + 1) w3 HS3.out HM3.out)
  refine HCA.out.mono ?_
  rintro e w4 ⟨hk4, rfl, hx⟩
  have HK4 := hid hk4
  have HB4 := hid (show Bw w w4 from Below.trans HB3.out (hk4.below HB3.out.size (fun i e => by subst e; rw [HSB.out]; omega)))
  have HR4 := hid (hk4.has HR3.out (show ¬ sb + 1 = sb + 1 + 1 by omega))
  have HX := hid (show ∃ a c b d, Has w4 (sb + 1 + 1) 27 (elfV (readM s) a c b d) ∧ ElfOwn w4 (readM s) a c b d from by
    rcases hx with ⟨_, h⟩ | ⟨hE, h⟩
    · exact h
    · exact ⟨none, 0, none, 0, by rw [readM_bad hE]; exact h, by rw [readM_bad hE]; exact zero_own w4⟩)
  clear hk4 hx HCA hsb
  obtain ⟨a, c, b, d, hm, ho⟩ := HX.out
  have HO := hid ho
  unfold elfV at HQ hm
  obtain ⟨ty, hty⟩ : ∃ x, (readM s).typ = x := ⟨_, rfl⟩
  obtain ⟨ma, hma⟩ : ∃ x, (readM s).mac = x := ⟨_, rfl⟩
  obtain ⟨en, hen⟩ : ∃ x, (readM s).ent = x := ⟨_, rfl⟩
  obtain ⟨fl, hfl⟩ : ∃ x, (readM s).flg = x := ⟨_, rfl⟩
  obtain ⟨n, hn⟩ : ∃ x, (readM s).segs.length = x := ⟨_, rfl⟩
  obtain ⟨k, hk⟩ : ∃ x, (readM s).secs.length = x := ⟨_, rfl⟩
  rw [hty, hma, hen, hfl, hn, hk] at HQ hm
  have HM := hid hm
  have HPN := hid (HR4.out.set [.int .i64 ty, .int .i64 ma, .int .u64 en, .int .i64 fl, .slice a n c, .slice b k d] rfl)
  have HBN := hid (HB4.out.set (show w.heap.size ≤ sb + 1 by rw [HSB.out]; omega) [.int .i64 ty, .int .i64 ma, .int .u64 en, .int .i64 fl, .slice a n c, .slice b k d])
  have HON := hid (ho.keep (w' := w4.setCells (sb + 1) 0 [.int .i64 ty, .int .i64 ma, .int .u64 en, .int .i64 fl, .slice a n c, .slice b k d]) HR4.out (by decide) (by decide) (fun i _ hn => by rw [setCells_put]; exact putL_heap hn))
  clear hm ho HX hty hma hen hfl hn hk
  go_upto_region 3 with fail
  refine wp_region_list ?_
  refine wpList_load_mid rfl 27 (.tmp 4) rfl (sb + 1 + 1) 0 rfl [.int .i64 ty, .int .i64 ma, .int .u64 en, .int .i64 fl, .slice a n c, .slice b k d] _ HM.out.range Try.underlying27 rfl inf_Elf ?_
  refine wpList_plain rfl fun K hK => ?_
  go_simp
  refine hK _ _ ?_
  clear hK K
  refine wpList_store_mid rfl 27 (.tmp 2) (.tmp 8) rfl (sb + 1) 0 #[.int .i64 ty, .int .i64 ma, .int .u64 en, .int .i64 fl, .slice a n c, .slice b k d] rfl rfl (HR4.out.there 6 (Nat.le_refl _)) inf_Elf (by simp only [List.all_toArray, List.all_cons, List.all_nil]; rfl) ?_
  change wpList _ _ _ _ _ (w4.setCells (sb + 1) 0 [.int .i64 ty, .int .i64 ma, .int .u64 en, .int .i64 fl, .slice a n c, .slice b k d])
  generalize w4.setCells (sb + 1) 0 [.int .i64 ty, .int .i64 ma, .int .u64 en, .int .i64 fl, .slice a n c, .slice b k d] = w5 at *
  go_wp2_with fail
  have p0 := HPN.out.cell 0
  have p1 := HPN.out.cell 1
  have p2 := HPN.out.cell 2
  have p3 := HPN.out.cell 3
  have p4 := HPN.out.cell 4
  have p5 := HPN.out.cell 5
  simp only [List.getElem?_toArray, List.getElem?_cons_zero, List.getElem?_cons_succ] at p0 p1 p2 p3 p4 p5
  refine bodyPost_ret (by simp [results, Try.results10, go_sem, p0, p1, p2, p3, p4, p5]; try rfl) rfl ?_
  exact HQ.out _ _ HBN.out ⟨a, c, b, d, rfl, HON.out⟩
end Go.Proofs.Ytciaebhkemdilaa

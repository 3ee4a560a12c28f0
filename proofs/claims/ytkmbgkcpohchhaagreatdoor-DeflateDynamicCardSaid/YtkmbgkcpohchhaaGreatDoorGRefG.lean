import Derived.Test.YtkmbgkcpohchhaaGreatDoorGHufW
import Derived.Test.YtkmbgkcpohchhaaGreatDoorGInfK
import Derived.Test.YtkmbgkcpohchhaaGreatDoorGHufR
import Derived.Deep.QuietTactic
import Derived.BigQuiet
namespace Go.Proofs.YtkmbgkcpohchhaaGreatDoor
open Go.RowKit Go.Conc
set_option linter.unusedVariables false
def HeadR (B : Nat) (fb g : Nat) (s : ByteArray) (lim : Nat) (last : Bool) (k : Nat) (out : List UInt8) (w : World) (e : Ending) (w' : World) : Prop :=
  KT TJ B w w' ∧ ((∃ er, Leads s lim (stHead s last k out) (.bad er) ∧ er ≠ 0 ∧ e = .returned (.tuple #[.int .i64 0, .int .i64 0, .agg #[.slice none 0 0, .slice none 0 0], .int .i64 er])) ∨
    (∃ (n d : Nat) (t : List Int) (k' : Nat) (c v : Value), Leads s lim (stHead s last k out) (.go ⟨.seq last n d t [], k', out⟩) ∧ 257 ≤ n ∧ n ≤ 286 ∧ 1 ≤ d ∧ d ≤ 30 ∧ t.length = 19 ∧ CodeR w' c t ∧
      e = .returned (.tuple #[.int .i64 n, .int .i64 d, c, .int .i64 0]) ∧ Ref B w' fb g s k' out lim v))
def HdrR (B : Nat) (w : World) (fb g nb ab ob : Nat) (s : ByteArray) (lim : Nat) (last : Bool) (n d gv k : Nat) (out : List UInt8) (j : Nat) (any : Bool) (wr : World) : Prop :=
  ∃ l1 k1 v1, l1.length = 19 ∧ (∀ x ∈ l1, 0 ≤ x ∧ x ≤ 15) ∧ (any = false → l1 = List.replicate 19 0) ∧ Has wr ab 3 (icl l1).toArray ∧ Has wr nb 129 #[.slice none 0 0, .slice none 0 0] ∧ Has wr ob 3 ordA ∧
    Ref B wr fb g s k1 out lim v1 ∧ KT TJ B w wr ∧ Leads s lim (stHead s last k out) (.go ⟨.hdr last n d gv j l1, k1, out⟩)
theorem check_three {l : List Int} (hl : l.length ≤ 320) (hr : ∀ x ∈ l, 0 ≤ x ∧ x ≤ 15) (h : checkE l ≠ 0) : checkE l = 3 := by
  have ho : okLens l = true := by simp [okLens, hl]; exact fun x hx => by have := hr x hx; simp [lenB]; omega
  unfold checkE at h ⊢
  rw [ho] at h ⊢
  cases hc : codeB l with
  | false => rfl
  | true => simp [hc] at h
theorem none_bad (s : ByteArray) (k : Nat) : nextE (List.replicate 19 0) s k = 3 := by
  have h1 : lfK (List.replicate 19 0) (List.replicate 19 (0 : Int)).length (0, 0) = none := lfK_top _ _ _
  have h2 : ndB (List.replicate 19 0) (0, 0) = false := by decide +kernel
  unfold nextE nextR
  rw [dGo_off h1 h2]
theorem seq_none (s : ByteArray) (lim : Nat) (last : Bool) (n d k : Nat) (out : List UInt8) (hn : 0 < n) : step s lim ⟨.seq last n d (List.replicate 19 0) [], k, out⟩ = .bad 3 := by
  rw [step_seq]
  unfold stSeq
  rw [if_pos (by simp; omega), sym1_bad (by rw [none_bad]; decide), none_bad]
theorem set_rep (n o : Nat) : (List.replicate n (0 : Int)).set o 0 = List.replicate n 0 :=
  List.ext_getElem (by simp) fun i h1 h2 => by rw [List.getElem_set]; split <;> simp
def z19A : Array Value := (icl (List.replicate 19 0)).toArray
theorem make19 (W : World) : (Instr.makeSlice 44 (.int .i64 19) (.int .i64 19)).run Tryz.prog W = .ok (.slice (some ⟨W.heap.size, 0, none⟩) 19 19) (W.alloc (.cells z19A 3)) :=
  (make_fill (fun _ => 0) 19 (by omega) W).trans (by rw [show fillArr (fun _ => 0) 19 0 = z19A by kernel_rfl])
theorem icl_ints {w : World} {b : Nat} {l : List Int} (h : Has w b 3 (icl l).toArray) : IntsAt w b 0 l := ⟨_, h, fun i hi => by
  rw [Nat.zero_add, List.getElem?_toArray, icl_get l i hi]⟩
section
variable {B : Nat} {w : World} {fb g : Nat} {s : ByteArray} {k : Nat} {out : List UInt8} {lim : Nat} {v : Value}
set_option maxRecDepth 100000 in
set_option maxHeartbeats 4000000 in
theorem rhead_any (hs : s.size ≤ 281474976710656) (last : Bool) (h : Ref B w fb g s k out lim v) :
    Calls Tryz.prog 103 #[.pointer (some ⟨fb, 0, none⟩)] w (HeadR B fb g s lim last k out w) := by
  have hmk := fun W => make19 W
  have HI := hid h
  have HX := hid (head_eq s last k out)
  have HW := hid (show Bw w (w.alloc (.cells #[.slice none 0 0, .slice none 0 0] 129)) from (Bw.refl w).alloc _)
  have HN := hid (Has.new w 129 #[.slice none 0 0, .slice none 0 0])
  clear h
  go_enter Tryz.func103, Tryz.ntmps103
  go_wp2_with fail
  obtain ⟨nb, hnb⟩ : ∃ nb, w.heap.size = nb := ⟨_, rfl⟩
  have HI1 := hid (HI.out.bw HW.out)
  rw [hnb] at HN ⊢
  have HNB := hid (show w.heap.size ≤ nb by omega)
  generalize w.alloc (.cells #[.slice none 0 0, .slice none 0 0] 129) = W1 at *
  clear hnb
  by_cases h1 : k + 5 ≤ 8 * s.size
  · have HX := hid (HX.out.trans (num_ok h1))
    have ha : bv s k 5 < 32 := bv_lt s k 5
    refine (rbits_ok hs 5 (by omega) 257 (by omega) h1 HI1.out).mono ?_
    rintro e w2 ⟨rfl, hi2, hk2⟩
    have HI2 := hid hi2
    have HK2 := hid ((KT.of_bw HW.out).trans hk2)
    have HN2 := hid (hk2.has HN.out (by decide))
    clear hi2 hk2
    obtain ⟨n, hn⟩ : ∃ n, 257 + bv s k 5 = n := ⟨_, rfl⟩
    have HX : Hid (stHead s last k out = num s (k + 5) 5 fun b k4 => num s k4 4 fun c k5 => if n ≤ 286 ∧ b + 1 ≤ 30 then .go ⟨.hdr last n (b + 1) (c + 4) 0 (List.replicate 19 0), k5, out⟩ else .bad 3) := hid (by rw [HX.out, ← hn, Nat.add_comm 257])
    have hn1 : 257 ≤ n ∧ n ≤ 289 := by omega
    rw [hn]
    clear hn
    go_wp2_with fail
    clear ha h1
    generalize k + 5 = k2 at *
    by_cases h2 : k2 + 5 ≤ 8 * s.size
    · have HX := hid (HX.out.trans (num_ok h2))
      have hb : bv s k2 5 < 32 := bv_lt s k2 5
      refine (rbits_ok hs 5 (by omega) 1 (by omega) h2 HI2.out).mono ?_
      rintro e w3 ⟨rfl, hi3, hk3⟩
      have HI3 := hid hi3
      have HK3 := hid (HK2.out.trans hk3)
      have HN3 := hid (hk3.has HN2.out (by decide))
      clear hi3 hk3
      obtain ⟨d, hd⟩ : ∃ d, 1 + bv s k2 5 = d := ⟨_, rfl⟩
      have HX : Hid (stHead s last k out = num s (k2 + 5) 4 fun c k5 => if n ≤ 286 ∧ d ≤ 30 then .go ⟨.hdr last n d (c + 4) 0 (List.replicate 19 0), k5, out⟩ else .bad 3) := hid (by rw [HX.out, ← hd, Nat.add_comm 1])
      have hd1 : 1 ≤ d ∧ d ≤ 32 := by omega
      rw [hd]
      clear hd
      go_wp2_with fail
      clear hb h2
      generalize k2 + 5 = k3 at *
      by_cases h3 : k3 + 4 ≤ 8 * s.size
      · have HX := hid (HX.out.trans (num_ok h3))
        have hc : bv s k3 4 < 16 := bv_lt s k3 4
        refine (rbits_ok hs 4 (by omega) 4 (by omega) h3 HI3.out).mono ?_
        rintro e w4 ⟨rfl, hi4, hk4⟩
        have HI4 := hid hi4
        have HK4 := hid (HK3.out.trans hk4)
        have HN4 := hid (hk4.has HN3.out (by decide))
        clear hi4 hk4
        obtain ⟨gv, hg⟩ : ∃ gv, 4 + bv s k3 4 = gv := ⟨_, rfl⟩
        have HX : Hid (stHead s last k out = if n ≤ 286 ∧ d ≤ 30 then .go ⟨.hdr last n d gv 0 (List.replicate 19 0), k3 + 4, out⟩ else .bad 3) := hid (by rw [HX.out, ← hg, Nat.add_comm 4])
        have hg1 : gv ≤ 19 := by omega
        rw [hg]
        clear hg hc
        by_cases h4 : n ≤ 286 ∧ d ≤ 30
        · have HX := hid (HX.out.trans (if_pos h4))
          obtain ⟨h41, h42⟩ := h4
          have t1 : decide (286 < (n : Int)) = false := decide_eq_false (by omega)
          have t2 : decide (30 < (d : Int)) = false := decide_eq_false (by omega)
          have t3 : decide (286 < n) = false := decide_eq_false (by omega)
          have t4 : decide (30 < d) = false := decide_eq_false (by omega)
          go_wp2_with fail
          clear t1 t2 t3 t4 h3
          generalize k3 + 4 = k4 at *
          have HA5 := hid (show Has (w4.alloc (.cells z19A 3)) w4.heap.size 3 (icl (List.replicate 19 0)).toArray from Has.new w4 _ _)
          have HW5 := hid (show Bw w4 (w4.alloc (.cells z19A 3)) from (Bw.refl w4).alloc _)
          have hz5 : (w4.alloc (.cells z19A 3)).heap.size = w4.heap.size + 1 := by simp
          obtain ⟨ab, hab⟩ : ∃ ab, w4.heap.size = ab := ⟨_, rfl⟩
          rw [hab] at HA5 hz5 ⊢
          generalize w4.alloc (.cells z19A 3) = w5 at *
          refine (order_any _).mono ?_
          rintro e w6 ⟨ob, rfl, hob, ho6, hb6⟩
          have HB6 := hid (HW5.out.trans hb6)
          have HA6 := hid (hb6.has HA5.out)
          have HO6 := hid ho6
          have HN6 := hid (HB6.out.has HN4.out)
          have HI6 := hid (HI4.out.bw HB6.out)
          have HK6 := hid (HK4.out.trans (KT.of_bw HB6.out))
          have HAB := hid (show w.heap.size ≤ ab by have := HK4.out.size; omega)
          have HBA := hid (show B ≤ ab by have h1 := HI.out.gb; have h2 := Has.lt HI.out.rd; have h3 := HAB.out; omega)
          have HOA := hid (show ob ≠ ab by omega)
          have HNA := hid (show nb ≠ ab by have := HN4.out.lt; omega)
          clear hob ho6 hb6 hab hz5
          go_wp2
          go_loopw [14, 15, 16, 17] (fun a i u1 u2 wr => ∃ (j : Nat) (any : Bool), j ≤ gv ∧ i = .int .i64 j ∧ a = .bool any ∧ HdrR B w fb g nb ab ob s lim last n d gv k out j any wr) (fun _ i _ _ _ => gv - (intOf i).toNat)
          case atStart => exact ⟨0, false, Nat.zero_le _, rfl, rfl, _, _, _, by simp, by simp, fun _ => rfl, HA6.out, HN6.out, HO6.out, HI6.out, HK6.out, HX.out ▸ Leads.refl _⟩
          case round =>
            rename World => wi
            obtain ⟨j, any, hj, rfl, rfl, l1, k1, v1, hl1, hr1, hz1, ha1, hn1', ho1, hi1, hk1, hL⟩ := hrel
            have HL1 := hid hl1
            have HR1 := hid hr1
            have HZ1 := hid hz1
            have HA := hid ha1
            have HNI := hid hn1'
            have HO := hid ho1
            have HII := hid hi1
            have HKI := hid hk1
            have HL := hid hL
            have HX := hid (hdr_eq s lim last n d gv j l1 k1 out)
            clear hl1 hr1 hz1 ha1 hn1' ho1 hi1 hk1 hL
            by_cases hlt : j < gv
            · have HX := hid (HX.out.trans (if_pos hlt))
              have hj1 : (j : Int) < gv := by omega
              have hj19 : (j : Int) < 19 := by omega
              have hj0 : (0 : Int) ≤ j := by omega
              have ho := ordL_lt j (by omega)
              go_wp2_with fail
              by_cases h5 : k1 + 3 ≤ 8 * s.size
              · have HX := hid (HX.out.trans (num_ok h5))
                refine (rbits_ok hs 3 (by omega) 0 (by omega) h5 HII.out).mono ?_
                rintro e w8 ⟨rfl, hi8, hk8⟩
                have HI8 := hid hi8
                have HK8 := hid (HKI.out.trans hk8)
                have HA8 := hid (hk8.has HA.out (by decide))
                have HO8 := hid (hk8.has HO.out (by decide))
                have HN8 := hid (hk8.has HNI.out (by decide))
                have hv8 : bv s k1 3 < 8 := bv_lt s k1 3
                rw [Nat.zero_add]
                clear hi8 hk8 h5
                have c0 : w8.cell? ⟨ob, j, none⟩ = some (.int .i64 (ordL.getD j 0 : Nat)) := (HO8.out.cell j).trans (ordA_get j (by omega))
                generalize ordL.getD j 0 = o at *
                generalize bv s k1 3 = bvv at *
                generalize k1 + 3 = k5 at *
                have b1 : (0 : Int) ≤ o := by omega
                have b2 : (o : Int) < 19 := by omega
                have b3 : (o : Int).toNat = o := rfl
                have b4 : IntKind.i64.wrap (o : Int) = (o : Int) := IntWalk.i64_in _ (by omega)
                have g0 : w8.cell? ⟨ab, o, none⟩ = some (.int .i64 (l1[o]'(by rw [HL1.out]; omega))) := (HA8.out.cell o).trans (by rw [List.getElem?_toArray, icl_get l1 o (by rw [HL1.out]; omega)])
                have g1 : w8.frozen? ⟨ab, o, none⟩ = false := HA8.out.frozen o
                have HA9 := hid (HA8.out.put o (.int .i64 (bvv : Nat)))
                rw [icl_set] at HA9
                have HN9 := hid (HN8.out.far (p := ⟨ab, o, none⟩) HNA.out (.int .i64 (bvv : Nat)))
                have HO9 := hid (HO8.out.far (p := ⟨ab, o, none⟩) HOA.out (.int .i64 (bvv : Nat)))
                have HK9 := hid ((KT.refl (T := [3]) (B := B) w8).setCell (p := ⟨ab, o, none⟩) HBA.out (HA8.out.hot (by decide)) (.int .i64 (bvv : Nat)))
                have HI9 := hid (HI8.out.other HK9.out (by decide) (by decide) (by decide))
                have HK10 := hid (HK8.out.later (Below.setCell (p := ⟨ab, o, none⟩) (Below.refl _ _) HAB.out (.int .i64 (bvv : Nat))))
                have HR9 := hid (show ∀ x ∈ l1.set o (bvv : Int), 0 ≤ x ∧ x ≤ 15 from fun x hx => by
                  rcases List.mem_or_eq_of_mem_set hx with h | h
                  · exact HR1.out x h
                  · omega)
                have HL9 := hid (show (l1.set o (bvv : Int)).length = 19 by rw [List.length_set]; exact HL1.out)
                cases any
                · by_cases hv0 : bvv = 0
                  · subst hv0
                    have HZ9 := hid (show l1.set o ((0 : Nat) : Int) = List.replicate 19 0 by rw [HZ1.out rfl]; exact set_rep 19 o)
                    go_wp2
                    exact ⟨⟨j + 1, false, by omega, by go_num, rfl, _, _, _, HL9.out, HR9.out, fun _ => HZ9.out, HA9.out, HN9.out, HO9.out, HI9.out, HK10.out, HL.out.then HX.out⟩, by simp [intOf]; omega⟩
                  · have hv1 : (0 : Int) < bvv := by omega
                    have hv2 : 0 < bvv := by omega
                    go_wp2
                    exact ⟨⟨j + 1, true, by omega, by go_num, by simp, _, _, _, HL9.out, HR9.out, (fun h => by cases h), HA9.out, HN9.out, HO9.out, HI9.out, HK10.out, HL.out.then HX.out⟩, by simp [intOf]; omega⟩
                · go_wp2
                  exact ⟨⟨j + 1, true, by omega, by go_num, rfl, _, _, _, HL9.out, HR9.out, (fun h => by cases h), HA9.out, HN9.out, HO9.out, HI9.out, HK10.out, HL.out.then HX.out⟩, by simp [intOf]; omega⟩
              · have HX := hid (HX.out.trans (num_bad h5))
                refine (rbits_bad hs 3 (by omega) 0 (by omega) h5 HII.out).mono ?_
                rintro e w8 ⟨rfl, hi8, hk8⟩
                have HK8 := hid (HKI.out.trans hk8)
                have HN8 := hid (hk8.has HNI.out (by decide))
                clear hi8 hk8
                have b0 : w8.cell? ⟨nb, 0, none⟩ = some (.slice none 0 0) := HN8.out.cell 0
                have b1 : w8.cell? ⟨nb, 1, none⟩ = some (.slice none 0 0) := HN8.out.cell 1
                have f0 : w8.frozen? ⟨nb, 0, none⟩ = false := HN8.out.frozen 0
                have f1 : w8.frozen? ⟨nb, 1, none⟩ = false := HN8.out.frozen 1
                have HP := hid (has_two HN8.out (.slice none 0 0) (.slice none 0 0))
                have HKX := hid (HK8.out.fresh HNB.out (.slice none 0 0) (.slice none 0 0))
                go_wp2
                generalize World.setCell (World.setCell w8 _ _) _ _ = W9 at *
                have p0 : W9.cell? ⟨nb, 0, none⟩ = some (.slice none 0 0) := HP.out.cell 0
                have p1 : W9.cell? ⟨nb, 1, none⟩ = some (.slice none 0 0) := HP.out.cell 1
                try simp only [Exit.inBlock, Exit.then]
                refine bodyPost_ret (by simp [results, Tryz.results103, go_sem, p0, p1]; try rfl) rfl ?_
                exact ⟨HKX.out, .inl ⟨_, HL.out.then HX.out, by decide, rfl⟩⟩
            · have HX := hid (HX.out.trans (if_neg hlt))
              have hj1 : ¬ (j : Int) < gv := by omega
              go_wp2_with fail
              by_cases hcl : checkE l1 = 0
              · have HX := hid (HX.out.trans (if_pos hcl))
                refine (rcoded_ok (B := B) ab 0 19 19 l1 HL1.out hcl (icl_ints HA.out)).mono ?_
                rintro e w8 ⟨c, rfl, hc8, hk8⟩
                have HC8 := hid hc8
                obtain ⟨cb, coff, clen, ccap, crb, rfl, _, _, _⟩ := hc8.ex
                have HI8 := hid (HII.out.other (hk8 []) (by decide) (by decide) (by decide))
                have HK8 := hid (HKI.out.trans (hk8 TJ))
                have HN8 := hid ((hk8 []).has HNI.out (by decide))
                have HL2 := hid (HL.out.then HX.out)
                clear hc8 hk8 hcl
                have HW9 := hid (show Bw w8 (w8.alloc (.cells #[.slice (some ⟨cb, coff, none⟩) clen ccap, .slice (some ⟨crb, 0, none⟩) clen clen] 129)) from (Bw.refl w8).alloc _)
                have HN9 := hid (HW9.out.has HN8.out)
                have HK9 := hid (HK8.out.trans (KT.of_bw HW9.out))
                cases any
                · have hz := HZ1.out rfl
                  subst hz
                  have b0 : (w8.alloc (.cells #[.slice (some ⟨cb, coff, none⟩) clen ccap, .slice (some ⟨crb, 0, none⟩) clen clen] 129)).cell? ⟨nb, 0, none⟩ = some (.slice none 0 0) := HN9.out.cell 0
                  have b1 : (w8.alloc (.cells #[.slice (some ⟨cb, coff, none⟩) clen ccap, .slice (some ⟨crb, 0, none⟩) clen clen] 129)).cell? ⟨nb, 1, none⟩ = some (.slice none 0 0) := HN9.out.cell 1
                  have f0 : (w8.alloc (.cells #[.slice (some ⟨cb, coff, none⟩) clen ccap, .slice (some ⟨crb, 0, none⟩) clen clen] 129)).frozen? ⟨nb, 0, none⟩ = false := HN9.out.frozen 0
                  have f1 : (w8.alloc (.cells #[.slice (some ⟨cb, coff, none⟩) clen ccap, .slice (some ⟨crb, 0, none⟩) clen clen] 129)).frozen? ⟨nb, 1, none⟩ = false := HN9.out.frozen 1
                  have HP := hid (has_two HN9.out (.slice none 0 0) (.slice none 0 0))
                  have HKX := hid (HK9.out.fresh HNB.out (.slice none 0 0) (.slice none 0 0))
                  go_wp2
                  generalize World.setCell (World.setCell (w8.alloc (.cells #[.slice (some ⟨cb, coff, none⟩) clen ccap, .slice (some ⟨crb, 0, none⟩) clen clen] 129)) _ _) _ _ = W9 at *
                  have p0 : W9.cell? ⟨nb, 0, none⟩ = some (.slice none 0 0) := HP.out.cell 0
                  have p1 : W9.cell? ⟨nb, 1, none⟩ = some (.slice none 0 0) := HP.out.cell 1
                  try simp only [Exit.inBlock, Exit.then]
                  refine bodyPost_ret (by simp [results, Tryz.results103, go_sem, p0, p1]; try rfl) rfl ?_
                  exact ⟨HKX.out, .inl ⟨_, HL2.out.then (seq_none s lim last n d k1 out (by omega)), by decide, rfl⟩⟩
                · have HB9 := hid (Has.new w8 129 #[.slice (some ⟨cb, coff, none⟩) clen ccap, .slice (some ⟨crb, 0, none⟩) clen clen])
                  have HI9 := hid (HI8.out.bw HW9.out)
                  have HC9 := hid (HC8.out.bw HW9.out)
                  have HNX := hid (show nb ≠ w8.heap.size by have := HN8.out.lt; omega)
                  go_wp2_with fail
                  generalize (w8.alloc (.cells #[.slice (some ⟨cb, coff, none⟩) clen ccap, .slice (some ⟨crb, 0, none⟩) clen clen] 129)) = w9 at *
                  generalize w8.heap.size = xb at *
                  have HD := hid (show Bw w9 w9.drew from (Bw.refl w9).drewN 1)
                  have HN9 := hid (HD.out.has HN9.out)
                  have HB9 := hid (HD.out.has HB9.out)
                  have HK9 := hid (HK9.out.trans (KT.of_bw HD.out))
                  have HI9 := hid (HI9.out.bw HD.out)
                  have HC9 := hid (HC9.out.bw HD.out)
                  have b0 : w9.drew.cell? ⟨nb, 0, none⟩ = some (.slice none 0 0) := HN9.out.cell 0
                  have b1 : w9.drew.cell? ⟨nb, 1, none⟩ = some (.slice none 0 0) := HN9.out.cell 1
                  have f0 : w9.drew.frozen? ⟨nb, 0, none⟩ = false := HN9.out.frozen 0
                  have f1 : w9.drew.frozen? ⟨nb, 1, none⟩ = false := HN9.out.frozen 1
                  have d0 : w9.drew.cell? ⟨xb, 0, none⟩ = some (.slice (some ⟨cb, coff, none⟩) clen ccap) := HB9.out.cell 0
                  have d1 : w9.drew.cell? ⟨xb, 1, none⟩ = some (.slice (some ⟨crb, 0, none⟩) clen clen) := HB9.out.cell 1
                  have HP := hid (has_two HN9.out (.slice (some ⟨cb, coff, none⟩) clen ccap) (.slice (some ⟨crb, 0, none⟩) clen clen))
                  have HKX := hid (HK9.out.fresh HNB.out (.slice (some ⟨cb, coff, none⟩) clen ccap) (.slice (some ⟨crb, 0, none⟩) clen clen))
                  have hBn : B ≤ nb := by have h1 := HI.out.gb; have h2 := Has.lt HI.out.rd; have h3 := HNB.out; omega
                  have HKN := hid (((KT.refl (T := [129]) (B := B) w9.drew).setCell (p := ⟨nb, 0, none⟩) hBn (HN9.out.hot (by decide)) (.slice (some ⟨cb, coff, none⟩) clen ccap)).setCell (p := ⟨nb, 1, none⟩) hBn ((HN9.out.put 0 (.slice (some ⟨cb, coff, none⟩) clen ccap)).hot (by decide)) (.slice (some ⟨crb, 0, none⟩) clen clen))
                  have HIX := hid (HI9.out.other HKN.out (by decide) (by decide) (by decide))
                  have HCX := hid (HC9.out.kt HKN.out (by decide))
                  clear hBn
                  have HNP := hid (show Has (w9.drew.setCell ⟨nb, 0, none⟩ (.slice (some ⟨cb, coff, none⟩) clen ccap)) nb 129 #[.slice (some ⟨cb, coff, none⟩) clen ccap, .slice none 0 0] by simpa using HN9.out.put 0 (.slice (some ⟨cb, coff, none⟩) clen ccap))
                  have e1 : (w9.drew.setCell ⟨nb, 0, none⟩ (.slice (some ⟨cb, coff, none⟩) clen ccap)).cell? ⟨nb, 1, none⟩ = some (.slice none 0 0) := HNP.out.cell 1
                  have e2 : (w9.drew.setCell ⟨nb, 0, none⟩ (.slice (some ⟨cb, coff, none⟩) clen ccap)).frozen? ⟨nb, 1, none⟩ = false := HNP.out.frozen 1
                  have e3 : w9.cell? ⟨nb, 0, none⟩ = some (.slice none 0 0) := b0
                  have e4 : w9.cell? ⟨nb, 1, none⟩ = some (.slice none 0 0) := b1
                  have e5 : w9.frozen? ⟨nb, 0, none⟩ = false := f0
                  have e6 : w9.frozen? ⟨nb, 1, none⟩ = false := f1
                  have e7 : w9.cell? ⟨xb, 0, none⟩ = some (.slice (some ⟨cb, coff, none⟩) clen ccap) := d0
                  have e8 : w9.cell? ⟨xb, 1, none⟩ = some (.slice (some ⟨crb, 0, none⟩) clen clen) := d1
                  go_region
                  have HWE : (w9.drew.setCell ⟨nb, 0, none⟩ (.slice (some ⟨cb, coff, none⟩) clen ccap)).setCell ⟨nb, 1, none⟩ (.slice (some ⟨crb, 0, none⟩) clen clen) = ((w9.setCell ⟨nb, 0, none⟩ (.slice (some ⟨cb, coff, none⟩) clen ccap)).setCell ⟨nb, 1, none⟩ (.slice (some ⟨crb, 0, none⟩) clen clen)).drew := rfl
                  rw [HWE] at HP HKX HIX HCX
                  clear HWE HNP e1 e2 e3 e4 e5 e6 e7 e8 b0 b1 f0 f1 d0 d1 HKN
                  go_wp2
                  generalize World.drew (World.setCell (World.setCell w9 _ _) _ _) = W9 at *
                  all_goals have p0 : W9.cell? ⟨nb, 0, none⟩ = some (.slice (some ⟨cb, coff, none⟩) clen ccap) := HP.out.cell 0
                  all_goals have p1 : W9.cell? ⟨nb, 1, none⟩ = some (.slice (some ⟨crb, 0, none⟩) clen clen) := HP.out.cell 1
                  all_goals try simp only [Exit.inBlock, Exit.then]
                  all_goals refine bodyPost_ret (by simp [results, Tryz.results103, go_sem, p0, p1]; try rfl) rfl ?_
                  all_goals exact ⟨HKX.out, .inr ⟨n, d, l1, k1, _, v1, HL2.out, by omega, by omega, by omega, by omega, HL1.out, HCX.out, rfl, HIX.out⟩⟩
              · have h3 := check_three (by rw [HL1.out]; decide) HR1.out hcl
                have HX := hid ((HX.out.trans (if_neg hcl)).trans (by rw [h3]))
                refine (rcoded_bad (B := B) ab 0 19 19 l1 HL1.out hcl (icl_ints HA.out)).mono ?_
                rintro e w8 ⟨rfl, hk8⟩
                have HK8 := hid (HKI.out.trans (hk8 TJ))
                have HN8 := hid ((hk8 []).has HNI.out (by decide))
                clear hk8 h3 hcl
                have HW9 := hid (show Bw w8 (w8.alloc (.cells #[.slice (some ⟨ab, 0, none⟩) 19 19, .slice none 0 0] 129)) from (Bw.refl w8).alloc _)
                have HN9 := hid (HW9.out.has HN8.out)
                have HK9 := hid (HK8.out.trans (KT.of_bw HW9.out))
                have b0 : (w8.alloc (.cells #[.slice (some ⟨ab, 0, none⟩) 19 19, .slice none 0 0] 129)).cell? ⟨nb, 0, none⟩ = some (.slice none 0 0) := HN9.out.cell 0
                have b1 : (w8.alloc (.cells #[.slice (some ⟨ab, 0, none⟩) 19 19, .slice none 0 0] 129)).cell? ⟨nb, 1, none⟩ = some (.slice none 0 0) := HN9.out.cell 1
                have f0 : (w8.alloc (.cells #[.slice (some ⟨ab, 0, none⟩) 19 19, .slice none 0 0] 129)).frozen? ⟨nb, 0, none⟩ = false := HN9.out.frozen 0
                have f1 : (w8.alloc (.cells #[.slice (some ⟨ab, 0, none⟩) 19 19, .slice none 0 0] 129)).frozen? ⟨nb, 1, none⟩ = false := HN9.out.frozen 1
                have HP := hid (has_two HN9.out (.slice none 0 0) (.slice none 0 0))
                have HKX := hid (HK9.out.fresh HNB.out (.slice none 0 0) (.slice none 0 0))
                go_wp2
                generalize World.setCell (World.setCell (w8.alloc (.cells #[.slice (some ⟨ab, 0, none⟩) 19 19, .slice none 0 0] 129)) _ _) _ _ = W9 at *
                have p0 : W9.cell? ⟨nb, 0, none⟩ = some (.slice none 0 0) := HP.out.cell 0
                have p1 : W9.cell? ⟨nb, 1, none⟩ = some (.slice none 0 0) := HP.out.cell 1
                try simp only [Exit.inBlock, Exit.then]
                refine bodyPost_ret (by simp [results, Tryz.results103, go_sem, p0, p1]; try rfl) rfl ?_
                exact ⟨HKX.out, .inl ⟨_, HL.out.then HX.out, by decide, rfl⟩⟩
        · have HX := hid (HX.out.trans (if_neg h4))
          by_cases h41 : n ≤ 286
          · have t1 : decide (286 < (n : Int)) = false := decide_eq_false (by omega)
            have t2 : decide (30 < (d : Int)) = true := decide_eq_true (by omega)
            have t3 : decide (286 < n) = false := decide_eq_false (by omega)
            have t4 : decide (30 < d) = true := decide_eq_true (by omega)
            have b0 : w4.cell? ⟨nb, 0, none⟩ = some (.slice none 0 0) := HN4.out.cell 0
            have b1 : w4.cell? ⟨nb, 1, none⟩ = some (.slice none 0 0) := HN4.out.cell 1
            have f0 : w4.frozen? ⟨nb, 0, none⟩ = false := HN4.out.frozen 0
            have f1 : w4.frozen? ⟨nb, 1, none⟩ = false := HN4.out.frozen 1
            have HP := hid (has_two HN4.out (.slice none 0 0) (.slice none 0 0))
            have HKX := hid (HK4.out.fresh HNB.out (.slice none 0 0) (.slice none 0 0))
            go_wp2
            generalize World.setCell (World.setCell w4 _ _) _ _ = W9 at *
            have p0 : W9.cell? ⟨nb, 0, none⟩ = some (.slice none 0 0) := HP.out.cell 0
            have p1 : W9.cell? ⟨nb, 1, none⟩ = some (.slice none 0 0) := HP.out.cell 1
            try simp only [Exit.inBlock, Exit.then]
            refine bodyPost_ret (by simp [results, Tryz.results103, go_sem, p0, p1]; try rfl) rfl ?_
            exact ⟨HKX.out, .inl ⟨_, HX.out ▸ Leads.refl _, by decide, rfl⟩⟩
          · have t1 : decide (286 < (n : Int)) = true := decide_eq_true (by omega)
            have t3 : decide (286 < n) = true := decide_eq_true (by omega)
            have b0 : w4.cell? ⟨nb, 0, none⟩ = some (.slice none 0 0) := HN4.out.cell 0
            have b1 : w4.cell? ⟨nb, 1, none⟩ = some (.slice none 0 0) := HN4.out.cell 1
            have f0 : w4.frozen? ⟨nb, 0, none⟩ = false := HN4.out.frozen 0
            have f1 : w4.frozen? ⟨nb, 1, none⟩ = false := HN4.out.frozen 1
            have HP := hid (has_two HN4.out (.slice none 0 0) (.slice none 0 0))
            have HKX := hid (HK4.out.fresh HNB.out (.slice none 0 0) (.slice none 0 0))
            go_wp2
            generalize World.setCell (World.setCell w4 _ _) _ _ = W9 at *
            have p0 : W9.cell? ⟨nb, 0, none⟩ = some (.slice none 0 0) := HP.out.cell 0
            have p1 : W9.cell? ⟨nb, 1, none⟩ = some (.slice none 0 0) := HP.out.cell 1
            try simp only [Exit.inBlock, Exit.then]
            refine bodyPost_ret (by simp [results, Tryz.results103, go_sem, p0, p1]; try rfl) rfl ?_
            exact ⟨HKX.out, .inl ⟨_, HX.out ▸ Leads.refl _, by decide, rfl⟩⟩
      · have HX := hid (HX.out.trans (num_bad h3))
        refine (rbits_bad hs 4 (by omega) 4 (by omega) h3 HI3.out).mono ?_
        rintro e w4 ⟨rfl, hi4, hk4⟩
        have HK4 := hid (HK3.out.trans hk4)
        have HN4 := hid (hk4.has HN3.out (by decide))
        clear hi4 hk4
        have b0 : w4.cell? ⟨nb, 0, none⟩ = some (.slice none 0 0) := HN4.out.cell 0
        have b1 : w4.cell? ⟨nb, 1, none⟩ = some (.slice none 0 0) := HN4.out.cell 1
        have f0 : w4.frozen? ⟨nb, 0, none⟩ = false := HN4.out.frozen 0
        have f1 : w4.frozen? ⟨nb, 1, none⟩ = false := HN4.out.frozen 1
        have HP := hid (has_two HN4.out (.slice none 0 0) (.slice none 0 0))
        have HKX := hid (HK4.out.fresh HNB.out (.slice none 0 0) (.slice none 0 0))
        go_wp2
        generalize World.setCell (World.setCell w4 _ _) _ _ = W9 at *
        have p0 : W9.cell? ⟨nb, 0, none⟩ = some (.slice none 0 0) := HP.out.cell 0
        have p1 : W9.cell? ⟨nb, 1, none⟩ = some (.slice none 0 0) := HP.out.cell 1
        try simp only [Exit.inBlock, Exit.then]
        refine bodyPost_ret (by simp [results, Tryz.results103, go_sem, p0, p1]; try rfl) rfl ?_
        exact ⟨HKX.out, .inl ⟨_, HX.out ▸ Leads.refl _, by decide, rfl⟩⟩
    · have HX := hid (HX.out.trans (num_bad h2))
      refine (rbits_bad hs 5 (by omega) 1 (by omega) h2 HI2.out).mono ?_
      rintro e w4 ⟨rfl, hi4, hk4⟩
      have HK4 := hid (HK2.out.trans hk4)
      have HN4 := hid (hk4.has HN2.out (by decide))
      clear hi4 hk4
      have b0 : w4.cell? ⟨nb, 0, none⟩ = some (.slice none 0 0) := HN4.out.cell 0
      have b1 : w4.cell? ⟨nb, 1, none⟩ = some (.slice none 0 0) := HN4.out.cell 1
      have f0 : w4.frozen? ⟨nb, 0, none⟩ = false := HN4.out.frozen 0
      have f1 : w4.frozen? ⟨nb, 1, none⟩ = false := HN4.out.frozen 1
      have HP := hid (has_two HN4.out (.slice none 0 0) (.slice none 0 0))
      have HKX := hid (HK4.out.fresh HNB.out (.slice none 0 0) (.slice none 0 0))
      go_wp2
      generalize World.setCell (World.setCell w4 _ _) _ _ = W9 at *
      have p0 : W9.cell? ⟨nb, 0, none⟩ = some (.slice none 0 0) := HP.out.cell 0
      have p1 : W9.cell? ⟨nb, 1, none⟩ = some (.slice none 0 0) := HP.out.cell 1
      try simp only [Exit.inBlock, Exit.then]
      refine bodyPost_ret (by simp [results, Tryz.results103, go_sem, p0, p1]; try rfl) rfl ?_
      exact ⟨HKX.out, .inl ⟨_, HX.out ▸ Leads.refl _, by decide, rfl⟩⟩
  · have HX := hid (HX.out.trans (num_bad h1))
    refine (rbits_bad hs 5 (by omega) 257 (by omega) h1 HI1.out).mono ?_
    rintro e w4 ⟨rfl, hi4, hk4⟩
    have HK4 := hid ((KT.of_bw HW.out).trans hk4)
    have HN4 := hid (hk4.has HN.out (by decide))
    clear hi4 hk4
    have b0 : w4.cell? ⟨nb, 0, none⟩ = some (.slice none 0 0) := HN4.out.cell 0
    have b1 : w4.cell? ⟨nb, 1, none⟩ = some (.slice none 0 0) := HN4.out.cell 1
    have f0 : w4.frozen? ⟨nb, 0, none⟩ = false := HN4.out.frozen 0
    have f1 : w4.frozen? ⟨nb, 1, none⟩ = false := HN4.out.frozen 1
    have HP := hid (has_two HN4.out (.slice none 0 0) (.slice none 0 0))
    have HKX := hid (HK4.out.fresh HNB.out (.slice none 0 0) (.slice none 0 0))
    go_wp2
    generalize World.setCell (World.setCell w4 _ _) _ _ = W9 at *
    have p0 : W9.cell? ⟨nb, 0, none⟩ = some (.slice none 0 0) := HP.out.cell 0
    have p1 : W9.cell? ⟨nb, 1, none⟩ = some (.slice none 0 0) := HP.out.cell 1
    try simp only [Exit.inBlock, Exit.then]
    refine bodyPost_ret (by simp [results, Tryz.results103, go_sem, p0, p1]; try rfl) rfl ?_
    exact ⟨HKX.out, .inl ⟨_, HX.out ▸ Leads.refl _, by decide, rfl⟩⟩
end
end Go.Proofs.YtkmbgkcpohchhaaGreatDoor
namespace Go.Proofs.YtkmbgkcpohchhaaGreatDoor
open Go.RowKit Go.Conc
set_option linter.unusedVariables false
def DidR (B : Nat) (fb g : Nat) (s : ByteArray) (lim : Nat) (x : IOut) (w : World) (e : Ending) (w' : World) : Prop :=
  KT TJ B w w' ∧ match x with
    | .bad er => e = .returned (.int .i64 er)
    | .go st => e = .returned (.int .i64 0) ∧ ∃ v, Ref B w' fb g s st.k st.out lim v
    | .fin k out => e = .returned (.int .i64 0) ∧ ∃ v, Ref B w' fb g s k out lim v
theorem DidR.bad {B fb g : Nat} {s : ByteArray} {lim : Nat} {x : IOut} {w w' : World} {er : Int} (h : x = .bad er) (hk : KT TJ B w w') : DidR B fb g s lim x w (.returned (.int .i64 er)) w' := by
  subst h; exact ⟨hk, rfl⟩
theorem DidR.st {B fb g : Nat} {s : ByteArray} {lim : Nat} {x : IOut} {w w' : World} {m : IMode} {k : Nat} {out : List UInt8} (h : x = .go ⟨m, k, out⟩) (hk : KT TJ B w w') {v : Value} (hi : Ref B w' fb g s k out lim v) : DidR B fb g s lim x w (.returned (.int .i64 0)) w' := by
  subst h; exact ⟨hk, rfl, v, hi⟩
theorem DidR.end_ {B fb g : Nat} {s : ByteArray} {lim : Nat} {x : IOut} {w w' : World} {last : Bool} {k : Nat} {out : List UInt8} (h : x = aft last k out) (hk : KT TJ B w w') {v : Value} (hi : Ref B w' fb g s k out lim v) : DidR B fb g s lim x w (.returned (.int .i64 0)) w' := by
  subst h; cases last <;> exact ⟨hk, rfl, v, hi⟩
theorem ext_get (s : ByteArray) (q i : Nat) (hi : i < 4) (h : q + 4 ≤ s.size) : ∃ h2 : i < (s.extract q (q + 4)).size, (s.extract q (q + 4))[i]'h2 = s[q + i]'(by omega) := by
  have hz : (s.extract q (q + 4)).size = 4 := by simp; omega
  refine ⟨by omega, ?_⟩
  rw [ByteArray.getElem_extract]
section
variable {B : Nat} {w : World} {fb g : Nat} {s : ByteArray} {k : Nat} {out : List UInt8} {lim : Nat} {v : Value}
set_option maxRecDepth 100000 in
set_option maxHeartbeats 4000000 in
theorem rstored_any (hs : s.size ≤ 281474976710656) (hl : lim ≤ 1073741824) (last : Bool) (h : Ref B w fb g s k out lim v) :
    Calls Tryz.prog 67 #[.pointer (some ⟨fb, 0, none⟩)] w (DidR B fb g s lim (stStored s lim last k out) w) := by
  obtain ⟨i0, hinf, hz0, hz1, hz2⟩ := info_parts byteInfo
  obtain ⟨q, hq⟩ : ∃ q, upK k = 8 * q := ⟨upK k / 8, upK_8 k⟩
  have c0 : w.cell? ⟨fb, 0, none⟩ = some (.pointer (some ⟨g, 0, none⟩)) := h.has.cell 0
  have HA := hid (refbytes_any g s hs k h.k8 4 w h.rd)
  have hu := upK_le k s.size h.k8
  have hq8 : upK k / 8 = q := by omega
  have HQ := hid hq
  have HI := hid h
  clear h
  by_cases h4 : q + 4 ≤ s.size
  · obtain ⟨e1, e2, e3⟩ := rbytes_good 4 s k q hq8 h4
    unfold RefBytesPost at HA
    have e1 : rbytesV s k 4 = _ := e1
    have e2 : rbytesE s k 4 = _ := e2
    have e3 : rbytesK s k 4 = _ := e3
    rw [e1, e2, e3, hq] at HA
    have HX := hid (stored_at (s := s) (lim := lim) (last := last) (k := k) (out := out) HQ.out (by omega))
    have hn16 := bytes16 s q (by omega)
    have hm16 := bytes16 s (q + 2) (by omega)
    rw [show 8 * q + 16 = 8 * (q + 2) by omega] at HX
    obtain ⟨g0, x0⟩ := ext_get s q 0 (by omega) h4
    obtain ⟨g1, x1⟩ := ext_get s q 1 (by omega) h4
    obtain ⟨g2, x2⟩ := ext_get s q 2 (by omega) h4
    obtain ⟨g3, x3⟩ := ext_get s q 3 (by omega) h4
    have hz4 : (s.extract q (q + 4)).size = 4 := by simp; omega
    generalize hH : s.extract q (q + 4) = H at *
    obtain ⟨y0, hy0⟩ : ∃ y : Nat, H[0].toNat = y := ⟨_, rfl⟩
    obtain ⟨y1, hy1⟩ : ∃ y : Nat, H[1].toNat = y := ⟨_, rfl⟩
    obtain ⟨y2, hy2⟩ : ∃ y : Nat, H[2].toNat = y := ⟨_, rfl⟩
    obtain ⟨y3, hy3⟩ : ∃ y : Nat, H[3].toNat = y := ⟨_, rfl⟩
    have l0 : y0 < 256 := by rw [← hy0]; exact H[0].toNat_lt
    have l1 : y1 < 256 := by rw [← hy1]; exact H[1].toNat_lt
    have l2 : y2 < 256 := by rw [← hy2]; exact H[2].toNat_lt
    have l3 : y3 < 256 := by rw [← hy3]; exact H[3].toNat_lt
    have z0 : (s[q]'(by omega)).toNat = y0 := by rw [← hy0, x0]; rfl
    have z1 : (s[q + 1]'(by omega)).toNat = y1 := by rw [← hy1, x1]
    have z2 : (s[q + 2]'(by omega)).toNat = y2 := by rw [← hy2, x2]
    have z3 : (s[q + 2 + 1]'(by omega)).toNat = y3 := by rw [← hy3, x3]
    rw [z0, z1] at hn16
    rw [z2, z3] at hm16
    rw [hn16, hm16] at HX
    obtain ⟨n, hn⟩ : ∃ n, y0 + 256 * y1 = n := ⟨_, rfl⟩
    obtain ⟨m, hm⟩ : ∃ m, y2 + 256 * y3 = m := ⟨_, rfl⟩
    obtain ⟨j, hj⟩ : ∃ j, 65535 - n = j := ⟨_, rfl⟩
    rw [hn, hm, hj] at HX
    have n1 : (y0 : Int) + 256 * (y1 : Int) = (n : Nat) := by omega
    have m1 : (y2 : Int) + 256 * (y3 : Int) = (m : Nat) := by omega
    have j1 : (65535 : Int) - (n : Nat) = (j : Nat) := by omega
    have hn9 : n ≤ 65535 := by omega
    have hm9 : m ≤ 65535 := by omega
    have hz4i : (4 : Int) ≤ H.size := by omega
    have HJ := hid hj
    clear e1 e2 e3 hn16 hm16 hq hq8 hu x0 x1 x2 x3 z0 z1 z2 z3 hH hn hm hj
    go_enter Tryz.func67, Tryz.ntmps67
    go_wp2_with fail
    refine HA.out.mono ?_
    rintro e w1 ⟨rfl, hr1, hk1⟩
    have HI1 := hid (HI.out.read hr1 hk1 (by omega))
    have HK1 := hid (KT.of_rx HI.out.rd HI.out.gb hk1)
    clear hr1 hk1 c0
    have p0 : (0 : Int) < H.size := by omega
    have p1 : (1 : Int) < H.size := by omega
    have p2 : (2 : Int) < H.size := by omega
    have p3 : (3 : Int) < H.size := by omega
    go_wp2_with fail
    go_quiet (fail)
    have HI2 := hid (HI1.out.bw ((Bw.refl w1).drewN nq))
    have HK2 := hid (HK1.out.trans (KT.of_bw ((Bw.refl w1).drewN nq)))
    generalize w1.drewN nq = w2 at *
    by_cases hmj : m = j
    · subst hmj
      rw [if_pos rfl] at HX
      go_wp2_with fail
      go_quiet (fail)
      have HI3 := hid (show Ref B (w2.drewN nq) fb g s (8 * (q + 4)) out lim v by rw [show 8 * (q + 4) = 8 * q + 8 * 4 by omega]; exact HI2.out.bw ((Bw.refl w2).drewN nq))
      have HK3 := hid (HK2.out.trans (KT.of_bw ((Bw.refl w2).drewN nq)))
      generalize w2.drewN nq = w3 at *
      have c3 : w3.cell? ⟨fb, 0, none⟩ = some (.pointer (some ⟨g, 0, none⟩)) := HI3.out.has.cell 0
      have hu4 : upK (8 * (q + 4)) = 8 * (q + 4) := by unfold upK; omega
      have HB := hid (refbytes_any g s hs (8 * (q + 4)) (by omega) n w3 HI3.out.rd)
      have HU := hid hu4
      clear p0 p1 p2 p3
      by_cases h5 : q + 4 + n ≤ s.size
      · rw [if_pos h5] at HX
        obtain ⟨f1, f2, f3⟩ := rbytes_good n s (8 * (q + 4)) (q + 4) (by rw [hu4]; omega) h5
        unfold RefBytesPost at HB
        rw [f1, f2, f3, hu4, ← Nat.mul_add] at HB
        have HCL := hid (cut_len s (q + 4) n h5)
        have HSZ := hid (show (s.extract (q + 4) (q + 4 + n)).size = n by have h9 := HCL.out; unfold cut at h9; rw [Array.length_toList] at h9; exact h9)
        have HCB := hid (strCells_bcs (s.extract (q + 4) (q + 4 + n)))
        have HCU := hid (show cut s (q + 4) n = (s.extract (q + 4) (q + 4 + n)).data.toList from rfl)
        generalize s.extract (q + 4) (q + 4 + n) = xs at *
        clear f1 f2 f3 hu4
        go_wp2_with fail
        refine HB.out.mono ?_
        rintro e w4 ⟨rfl, hr4, hk4⟩
        have HI4 := hid (HI3.out.read hr4 hk4 (by omega))
        have HK4 := hid (HK3.out.trans (KT.of_rx HI3.out.rd HI3.out.gb hk4))
        clear hr4 hk4 c3
        obtain ⟨ol, hol⟩ : ∃ ol, out.length = ol := ⟨_, rfl⟩
        have hown := HI4.out.own
        have hfew := HI4.out.few
        rw [hol] at hown HX hfew
        obtain ⟨vo, vc, rfl⟩ := own_slice hown
        have HOL := hid hol
        have HID := hid (HI4.out.bw ((Bw.refl w4).drewN 1))
        have HKD := hid (HK4.out.trans (KT.of_bw ((Bw.refl w4).drewN 1)))
        clear hol
        by_cases h6 : lim < ol + n
        · rw [if_pos h6] at HX
          have c1 : w4.drew.cell? ⟨fb, 1, none⟩ = some (.slice vo ol vc) := HID.out.has.cell 1
          have c2 : w4.drew.cell? ⟨fb, 2, none⟩ = some (.int .i64 lim) := HID.out.has.cell 2
          have d6 : decide (((lim : Nat) : Int) - ol < n) = true := decide_eq_true (by omega)
          go_wp2_with fail
          go_region
          all_goals go_wp2
          all_goals go_returns
          all_goals exact DidR.bad HX.out HKD.out
        · rw [if_neg h6] at HX
          have c1 : w4.drew.cell? ⟨fb, 1, none⟩ = some (.slice vo ol vc) := HID.out.has.cell 1
          have c2 : w4.drew.cell? ⟨fb, 2, none⟩ = some (.int .i64 lim) := HID.out.has.cell 2
          have d6 : decide (((lim : Nat) : Int) - ol < n) = false := decide_eq_false (by omega)
          have HO6 := hid (own_down (HID.out.own) (Nat.zero_le _))
          have HGE := hid (fun b hb => own_ge HID.out.own (b := b) hb)
          have hb9 : B ≤ w4.drew.heap.size := by have h1 := HID.out.gb; have h2 : g < w4.drew.heap.size := Has.lt HID.out.rd; omega
          rw [HOL.out] at HO6
          clear hown
          go_wp2_with fail
          go_region
          have HKD : Hid (KT TJ B w w4.drew) := HKD
          have HID : Hid (Ref B w4.drew fb g s (8 * (q + 4 + n)) out lim (.slice vo ol vc)) := HID
          have HO6 : Hid (w4.drew.ownsRow 0 5 1 (.slice vo ol vc) ol (bcs out)) := HO6
          generalize w4.drew = W at *
          have HLN := hid h6
          go_wp2_with (at_builtin; refine wpList_app_str rfl _ _ 41 9 rfl Tryz.underlying41 Tryz.underlying9 hinf hz0 hz1 hz2 (.slice vo ol vc) ol (bcs out) rfl HO6.out xs rfl (by have := HSZ.out; omega) ?_; intro rd' w7 hown7 hgrow7 hblk7; obtain ⟨ao2, cap2, rfl⟩ := own_slice hown7; have HG7 := hid hgrow7; have HO7 := hid hown7; have HBL := hid hblk7; have h7 := (HID.out.grown hgrow7).1; have g1 : w7.frozen? ⟨fb, 1, none⟩ = false := h7.frozen 1; have g2 : w7.cell? ⟨fb, 1, none⟩ = some (.slice vo ol vc) := h7.cell 1; clear hgrow7 hown7 hblk7 h7)
          go_returns
          have hln : (out ++ cut s (q + 4) n).length = ol + xs.size := by rw [List.length_append, HOL.out, HCL.out, HSZ.out]
          have hap := HID.out.app HG7.out (out' := out ++ cut s (q + 4) n) (v' := .slice ao2 (ol + xs.size) cap2) (by
            rw [hln, HCU.out, bcs_append, ← HCB.out]
            refine own_lift HO7.out fun b hb => ?_
            rcases HBL.out with h | h
            · exact HGE.out b (by rw [← h]; exact hb)
            · have := h b hb; omega) (by have := HLN.out; rw [hln, HSZ.out]; omega)
          exact DidR.end_ HX.out (HKD.out.trans hap.2) hap.1
      · rw [if_neg h5] at HX
        obtain ⟨f1, f2, f3⟩ := rbytes_short (n := n) (by omega) s (8 * (q + 4)) (q + 4) (by rw [hu4]; omega) (by omega)
        unfold RefBytesPost at HB
        rw [f1, f2, f3] at HB
        clear f1 f2 f3 hu4
        go_wp2_with fail
        refine HB.out.mono ?_
        rintro e w4 ⟨rfl, hr4, hk4⟩
        have HK4 := hid (HK3.out.trans (KT.of_rx HI3.out.rd HI3.out.gb hk4))
        clear hr4 hk4 c3
        go_wp2
        go_returns
        exact DidR.bad HX.out HK4.out
    · rw [if_neg hmj] at HX
      have t1 : ((m : Int) != (j : Int)) = true := by simp; omega
      go_wp2_with fail
      go_quiet (fail)
      have HK3 := hid (HK2.out.trans (KT.of_bw ((Bw.refl w2).drewN nq)))
      generalize w2.drewN nq = w3 at *
      go_wp2
      go_returns
      exact DidR.bad HX.out HK3.out
  · obtain ⟨e1, e2, e3⟩ := rbytes_short (n := 4) (by omega) s k q hq8 (by omega)
    unfold RefBytesPost at HA
    rw [e1, e2, e3] at HA
    have HX := hid (show stStored s lim last k out = .bad 2 by
      by_cases h1 : 8 * q + 16 ≤ 8 * s.size
      · exact stored_cut2 hq h1 (by omega)
      · exact stored_cut1 hq h1)
    clear e1 e2 e3 hq hq8
    go_enter Tryz.func67, Tryz.ntmps67
    go_wp2_with fail
    refine HA.out.mono ?_
    rintro e w1 ⟨rfl, hr1, hk1⟩
    have HK1 := hid (KT.of_rx HI.out.rd HI.out.gb hk1)
    clear hr1 hk1 c0
    go_wp2
    go_returns
    exact DidR.bad HX.out HK1.out
end
end Go.Proofs.YtkmbgkcpohchhaaGreatDoor

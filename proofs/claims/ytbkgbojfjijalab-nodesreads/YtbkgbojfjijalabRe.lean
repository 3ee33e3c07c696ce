/- The walk of NodesReads. -/
import Derived.Test.YtbkgbojfjijalabDm
namespace Go.Proofs.Ytbkgbojfjijalab
open Go.RowKit

set_option maxRecDepth 100000 in
set_option maxHeartbeats 8000000 in
theorem reads_walk (z : Int) (L : Nat) (Q : Nat → Int × V × V) (v : Value) (W : World) (hO : Ops W.heap.size W v L Q) (hL : L * 72 ≤ 140737488355328) :
    Calls Try.prog 4 #[.int .i64 z, v] W fun e w' => e = .returned (.bool true) ∧ Below W.heap.size W w' := by
  have CF := fixed_any W
  by_cases hbad : rt z = false ∨ 4096 < z
  · have CB := fun w => begin_bad z w hbad
    have HA : Hid (0 ≤ z → z ≤ 512 → (bits .and .i64 z (z - 1) != 0) = true) := fun h0 h1 => by
      rcases hbad with h | h
      · exact bad_and h h0 (by omega)
      · omega
    clear hbad hO
    go_enter Try.func4, Try.ntmps4
    go_wp2_with fail
    refine CF.mono ?_; rintro e w0 ⟨rfl, hb⟩
    have HB : Hid _ := hb
    clear hb CF
    go_wp2_with fail
    refine (CB _).mono ?_; rintro e w0 ⟨rfl, rfl⟩
    clear CB
    by_cases h0 : z < 0
    · go_wp2_with fail
      go_ret
      exact ⟨rfl, HB.out⟩
    · by_cases h1 : 512 < z
      · go_wp2_with fail
        go_ret
        exact ⟨rfl, HB.out⟩
      · have ha := HA.out (by omega) (by omega)
        go_wp2_with fail
        go_ret
        exact ⟨rfl, HB.out⟩
  · simp only [not_or, Bool.not_eq_false] at hbad
    obtain ⟨n, rfl, hR⟩ := Rt.of hbad.1
    have hn : n ≤ 4096 := by have := hbad.2; omega
    clear hbad
    have CB := fun w => begin_any n w hR hn
    by_cases h256 : 512 < n
    · clear hO
      have h256' : 512 < (n : Int) := by omega
      unfold pp at CB
      go_enter Try.func4, Try.ntmps4
      go_wp2_with fail
      refine CF.mono ?_; rintro e w0 ⟨rfl, hb⟩
      have HB : Hid _ := hb
      clear hb CF
      go_wp2_with fail
      refine (CB _).mono ?_; rintro e w2 ⟨S, ka, va, ca, w1, rfl, h1, h2⟩
      have HS : Hid _ := (St.start HB.out h1 h2).keep
      clear CB h1 h2
      go_wp2_with fail
      go_ret
      exact ⟨rfl, HS.out.below (Nat.le_refl _) (fun _ h => h)⟩
    · have h256' : ¬ 512 < (n : Int) := by omega
      have HO : Hid (Ops W.heap.size W v L Q) := hO
      obtain ⟨va0, cap, hva, hrng, _⟩ := id hO
      have HVA : Hid (v = .slice va0 L cap) := hva
      rw [hva]
      clear hva
      have HRng : Hid _ := hrng
      have HR : Hid (Rt n) := hR
      clear hO hrng hR
      unfold pp at CB
      go_enter Try.func4, Try.ntmps4
      go_wp2_with fail
      refine CF.mono ?_; rintro e w0 ⟨rfl, hb⟩
      have HB : Hid _ := hb
      have HBs : Hid (W.heap.size ≤ w0.heap.size) := hb.size
      clear hb CF
      go_wp2_with fail
      refine (CB _).mono ?_; rintro e w2 ⟨S, ka, va, ca, w1, rfl, h1, h2⟩
      have HS : Hid _ := St.start HB.out h1 h2
      clear CB h1 h2
      obtain ⟨a, ha⟩ : ∃ a, w0.heap.size = a := ⟨_, rfl⟩
      rw [ha] at HS HBs ⊢
      have HAB : Hid (W.heap.size ≤ a ∧ W.heap.size ≤ a + 1) := ⟨HBs.out, by have := HBs.out; omega⟩
      clear ha HBs HB
      go_wp2_with fail
      go_loopw [8] (fun iw wr => ∃ (k : Nat), iw = .int .i64 (k : Nat) ∧ k ≤ L ∧ Hid (∃ g, St W.heap.size W wr (a + 1) a n g)) (fun iw _ => L - (intOf iw).toNat)
      case atStart => exact ⟨0, rfl, by omega, ⟨_, HS.out⟩⟩
      case round =>
        obtain ⟨k, rfl, hk, HG⟩ := hrel
        obtain ⟨g, hS⟩ := HG.out
        clear HG HS
        by_cases hlt : k < L ∧ k < 400
        · obtain ⟨hlt, h400⟩ := hlt
          have hlt' : (k : Int) < (L : Int) := by omega
          have h400' : (k : Int) < 400 := by omega
          obtain ⟨lb, off, cap2, hv, hlb, o0, o1, o2, o3, o4, o5, o6⟩ := (HO.out.below (hS.below (Nat.le_refl _))).at hlt
          rw [HVA.out] at hv
          obtain ⟨rfl, rfl⟩ : va0 = some ⟨lb, off, none⟩ ∧ cap = cap2 := by simpa using hv
          clear hv
          have CP := put_all (Q k).2.1 (Q k).2.2 wr.drew (hS.pt.below (bdrew1 _)) hS.inv HR.out (HRng.out k hlt)
          have HST : Hid (∀ w', Pt w' (a + 1) a n (put n g (Q k).2.1 (Q k).2.2).1 → Keep (fun x => x ≠ a ∧ x ≠ a + 1) wr.drew w' → St W.heap.size W w' (a + 1) a n (put n g (Q k).2.1 (Q k).2.2).1) := fun w' h1 h2 => (hS.bel (bdrew1 _)).put HR.out (HRng.out k hlt) h1 h2 HAB.out
          generalize put n g (Q k).2.1 (Q k).2.2 = r at *
          unfold pp vl at CP
          clear hS
          go_wp2_with fail
          refine wp_tail 11 (by kernel_rfl) (by kernel_rfl) ?_
          simp only [List.take_succ_cons, List.take_zero, List.drop_succ_cons, List.drop_zero]
          repeat still_step
          refine wpStill_nil ?_
          go_wp2_with fail
          refine CP.mono ?_; rintro e w3 ⟨rfl, hp, hk2⟩
          have HS3 : Hid _ := HST.out w3 hp hk2
          clear CP HST hp hk2
          go_wp2_with fail
          go_round
          case rel => exact ⟨k + 1, by go_num, by omega, ⟨_, HS3.out⟩⟩
          case measure => simp [intOf]; omega
        · have HS3 : Hid _ := hS
          have CD := dump_any wr hS.pt HR.out.le
          unfold pp at CD
          clear hS
          have HCON : Hid (¬ (k < L ∧ k < 400)) := hlt
          clear hlt
          by_cases h1 : k < L
          · have hA : (k : Int) < (L : Int) := by omega
            have hB : ¬ (k : Int) < 400 := by have := HCON.out; omega
            go_wp2_with fail
            refine CD.mono ?_; rintro e w4 ⟨D, c', rfl, hrow, hfz, hDge, hDlt, hb⟩
            have HS4 : Hid _ := HS3.out.bel hb
            have HD4 : Hid (Dm w4 D n g) := ⟨hrow, hDlt⟩
            clear CD hrow hfz hDge hDlt hb HCON
            go_wp2_with fail
            go_loopw [9, 10, 12] (fun sw hw jw wr => ∃ i s h : Nat, jw = .int .i64 (i : Nat) ∧ sw = .int .i64 (s : Nat) ∧ hw = .int .i64 (h : Nat) ∧ i ≤ n ∧ s ≤ i * 512 ∧ h ≤ i ∧ Hid (s = sumTo i (rds (pl n) g) ∧ h = held g i) ∧ Hid (St W.heap.size W wr (a + 1) a n g) ∧ Hid (Dm wr D n g)) (fun _ _ jw _ => n - (intOf jw).toNat)
            case atStart => exact ⟨0, 0, 0, rfl, rfl, rfl, by omega, by omega, by omega, ⟨rfl, rfl⟩, HS4, HD4⟩
            case round =>
              obtain ⟨i, s, h, rfl, rfl, rfl, hi, hs, hh, HSH, HSi, HDi⟩ := hrel
              clear HS4 HD4 HS3
              by_cases hin : i < n
              · have hin' : (i : Int) < (n : Int) := by omega
                obtain ⟨k0, k1, k2⟩ := HDi.out.k hin
                by_cases hE : g.K i = nil
                · have HSH2 : Hid (s = sumTo (i + 1) (rds (pl n) g) ∧ h = held g (i + 1)) := by
                    refine ⟨?_, ?_⟩
                    · rw [sumTo, rds, if_pos hE]; exact HSH.out.1
                    · rw [held, sumTo, if_pos hE]; exact HSH.out.2
                  rw [hE] at k0 k1 k2
                  unfold nil at k0 k1 k2
                  simp only at k0 k1 k2
                  clear hE
                  go_wp2_with fail
                  go_round
                  case rel => exact ⟨i + 1, s, h, by go_num, rfl, rfl, by omega, by omega, by omega, HSH2, HSi, HDi⟩
                  case measure => simp [intOf]; omega
                · have hkd : ((g.K i).1 != 0) = true := by
                    have : ¬ (g.K i).1 = 0 := fun e => hE ((HSi.out.inv.kind hin).1 e)
                    simpa using this
                  have hz : pw n = true := HR.out.resolve_left (by omega)
                  have hpl : ∀ k, KOK k → pl n k < n := fun k _ => pl_lt hz k
                  have hkok : KOK (g.K i) := (HSi.out.inv.key i hin).resolve_left hE
                  obtain ⟨r, hfind, hrd, hr1, hr2⟩ := HSi.out.inv.rds_le hpl hin hE
                  have hfnd : fnd n g (g.K i) = (some i, r) := by
                    rw [fnd, if_neg (by
                      rintro (e | e | e)
                      · omega
                      · have := hkok.1; unfold fm at e; rw [this] at e; cases e
                      · exact hkok.2.1 e), hfind]
                  have HSH2 : Hid (s + r = sumTo (i + 1) (rds (pl n) g) ∧ h + 1 = held g (i + 1)) := by
                    refine ⟨?_, ?_⟩
                    · rw [sumTo, hrd, HSH.out.1]
                    · rw [held, sumTo, if_neg hE, HSH.out.2]; rfl
                  have CG := fun w (P : Pt w (a + 1) a n g) => get_any (g.K i) w P HSi.out.inv HR.out ⟨hkok.2.2.1, hkok.2.2.2⟩
                  have CFi := fun w (P : Pt w (a + 1) a n g) => find_any (g.K i) w P HSi.out.inv hz hkok
                  rw [hfind] at CFi
                  rw [hfnd] at CG
                  simp only [fi, xAt] at CFi CG
                  unfold pp vl at CFi CG
                  clear hfind hfnd hkok hz hpl hE hrd
                  have CG1 := CG _ HSi.out.pt
                  clear CG
                  go_wp2_with fail
                  refine CG1.mono ?_; rintro e w5 ⟨rfl, hb⟩
                  obtain ⟨W6, hW6⟩ : ∃ W6, w5.alloc (vb (g.X i).1 (g.X i).2.1 (g.X i).2.2) = W6 := ⟨_, rfl⟩
                  have hb6 : Below wr.heap.size wr W6 := by rw [← hW6]; exact bthen hb hb.size (b1 _ _)
                  have X6 : Bx W6 w5.heap.size (g.X i) := by rw [← hW6]; exact Bx.made w5 (g.X i)
                  have HS6 : Hid _ := HSi.out.bel hb6
                  have HD6 : Hid _ := HDi.out.below hb6
                  have CF6 := CFi _ HS6.out.pt
                  have HX6 : Hid _ := X6
                  unfold vb at hW6
                  clear CFi CG1 hb hb6 k0 k1 k2 HSi HDi X6
                  obtain ⟨k0, k1, k2⟩ := HD6.out.k hin
                  go_wp2_with fail
                  refine CF6.mono ?_; rintro e w7 ⟨rfl, hb⟩
                  have HS7 : Hid _ := HS6.out.bel hb
                  have HD7 : Hid _ := HD6.out.below hb
                  have X7 := HX6.out.below hb
                  have y0 := X7.c0
                  have y1 := X7.c1
                  have y2 := X7.c2
                  clear CF6 hb HS6 HD6 k0 k1 k2 HX6 hW6 X7
                  obtain ⟨k0, k1, k2⟩ := HD7.out.k hin
                  obtain ⟨x0, x1, x2⟩ := HD7.out.x hin
                  have N := neq32 (g.X i).1 (g.X i).2.1 (g.X i).1 (g.X i).2.1 (g.X i).2.2 (g.X i).2.2
                  simp only [decide_true, Bool.not_true] at N
                  unfold vl at N
                  have g32 := guard32
                  generalize w5.heap.size = B5 at *
                  go_wp2_with fail
                  go_quiet (fail)
                  go_wp2_with fail
                  go_round
                  case rel => exact ⟨i + 1, s + r, h + 1, by go_num, by go_num, by go_num, by omega, by omega, by omega, HSH2, HS7.out.bel (bdrew _ _ _), HD7.out.below (bdrew _ _ _)⟩
                  case measure => simp [intOf]; omega
              · have hin' : ¬ (i : Int) < (n : Int) := by omega
                have hiN : i = n := by omega
                subst hiN
                have HBl : Hid _ := HSi.out.below (Nat.le_refl _)
                have hsum : s ≤ tri h ∧ h ≤ s := by
                  rw [HSH.out.1, HSH.out.2]
                  by_cases h0 : i = 0
                  · subst h0; exact ⟨Nat.le_refl _, Nat.le_refl _⟩
                  · exact HSi.out.inv.sum_rds (fun k _ => pl_lt (HR.out.resolve_left h0) k)
                have C1 := d1_any wr HSi.out.pt
                unfold pp at C1
                clear HSi HDi
                have hle := tri_le (show h ≤ 512 by omega)
                have h2 := tri_two h
                obtain ⟨Tt, hTt⟩ : ∃ Tt, tri h = Tt := ⟨_, rfl⟩
                rw [hTt] at hsum hle h2
                have h3 : (h : Int) * ((h : Int) + 1) = 2 * (Tt : Int) := by exact_mod_cast h2.symm
                have h4 : (h : Int) ≤ (s : Int) := by omega
                have h5 : (s : Int) ≤ (Tt : Int) := by omega
                clear h2 hTt hsum HSH
                go_wp2_with fail
                refine C1.mono ?_; rintro e w8 ⟨rfl, rfl⟩
                go_wp2_with fail
                go_ret
                exact ⟨ret_bool (by first | rfl | (simp; done) | (simp; omega)), HBl.out⟩
          · have hA : ¬ (k : Int) < (L : Int) := by omega
            go_wp2_with fail
            refine CD.mono ?_; rintro e w4 ⟨D, c', rfl, hrow, hfz, hDge, hDlt, hb⟩
            have HS4 : Hid _ := HS3.out.bel hb
            have HD4 : Hid (Dm w4 D n g) := ⟨hrow, hDlt⟩
            clear CD hrow hfz hDge hDlt hb HCON
            go_wp2_with fail
            go_loopw [9, 10, 12] (fun sw hw jw wr => ∃ i s h : Nat, jw = .int .i64 (i : Nat) ∧ sw = .int .i64 (s : Nat) ∧ hw = .int .i64 (h : Nat) ∧ i ≤ n ∧ s ≤ i * 512 ∧ h ≤ i ∧ Hid (s = sumTo i (rds (pl n) g) ∧ h = held g i) ∧ Hid (St W.heap.size W wr (a + 1) a n g) ∧ Hid (Dm wr D n g)) (fun _ _ jw _ => n - (intOf jw).toNat)
            case atStart => exact ⟨0, 0, 0, rfl, rfl, rfl, by omega, by omega, by omega, ⟨rfl, rfl⟩, HS4, HD4⟩
            case round =>
              obtain ⟨i, s, h, rfl, rfl, rfl, hi, hs, hh, HSH, HSi, HDi⟩ := hrel
              clear HS4 HD4 HS3
              by_cases hin : i < n
              · have hin' : (i : Int) < (n : Int) := by omega
                obtain ⟨k0, k1, k2⟩ := HDi.out.k hin
                by_cases hE : g.K i = nil
                · have HSH2 : Hid (s = sumTo (i + 1) (rds (pl n) g) ∧ h = held g (i + 1)) := by
                    refine ⟨?_, ?_⟩
                    · rw [sumTo, rds, if_pos hE]; exact HSH.out.1
                    · rw [held, sumTo, if_pos hE]; exact HSH.out.2
                  rw [hE] at k0 k1 k2
                  unfold nil at k0 k1 k2
                  simp only at k0 k1 k2
                  clear hE
                  go_wp2_with fail
                  go_round
                  case rel => exact ⟨i + 1, s, h, by go_num, rfl, rfl, by omega, by omega, by omega, HSH2, HSi, HDi⟩
                  case measure => simp [intOf]; omega
                · have hkd : ((g.K i).1 != 0) = true := by
                    have : ¬ (g.K i).1 = 0 := fun e => hE ((HSi.out.inv.kind hin).1 e)
                    simpa using this
                  have hz : pw n = true := HR.out.resolve_left (by omega)
                  have hpl : ∀ k, KOK k → pl n k < n := fun k _ => pl_lt hz k
                  have hkok : KOK (g.K i) := (HSi.out.inv.key i hin).resolve_left hE
                  obtain ⟨r, hfind, hrd, hr1, hr2⟩ := HSi.out.inv.rds_le hpl hin hE
                  have hfnd : fnd n g (g.K i) = (some i, r) := by
                    rw [fnd, if_neg (by
                      rintro (e | e | e)
                      · omega
                      · have := hkok.1; unfold fm at e; rw [this] at e; cases e
                      · exact hkok.2.1 e), hfind]
                  have HSH2 : Hid (s + r = sumTo (i + 1) (rds (pl n) g) ∧ h + 1 = held g (i + 1)) := by
                    refine ⟨?_, ?_⟩
                    · rw [sumTo, hrd, HSH.out.1]
                    · rw [held, sumTo, if_neg hE, HSH.out.2]; rfl
                  have CG := fun w (P : Pt w (a + 1) a n g) => get_any (g.K i) w P HSi.out.inv HR.out ⟨hkok.2.2.1, hkok.2.2.2⟩
                  have CFi := fun w (P : Pt w (a + 1) a n g) => find_any (g.K i) w P HSi.out.inv hz hkok
                  rw [hfind] at CFi
                  rw [hfnd] at CG
                  simp only [fi, xAt] at CFi CG
                  unfold pp vl at CFi CG
                  clear hfind hfnd hkok hz hpl hE hrd
                  have CG1 := CG _ HSi.out.pt
                  clear CG
                  go_wp2_with fail
                  refine CG1.mono ?_; rintro e w5 ⟨rfl, hb⟩
                  obtain ⟨W6, hW6⟩ : ∃ W6, w5.alloc (vb (g.X i).1 (g.X i).2.1 (g.X i).2.2) = W6 := ⟨_, rfl⟩
                  have hb6 : Below wr.heap.size wr W6 := by rw [← hW6]; exact bthen hb hb.size (b1 _ _)
                  have X6 : Bx W6 w5.heap.size (g.X i) := by rw [← hW6]; exact Bx.made w5 (g.X i)
                  have HS6 : Hid _ := HSi.out.bel hb6
                  have HD6 : Hid _ := HDi.out.below hb6
                  have CF6 := CFi _ HS6.out.pt
                  have HX6 : Hid _ := X6
                  unfold vb at hW6
                  clear CFi CG1 hb hb6 k0 k1 k2 HSi HDi X6
                  obtain ⟨k0, k1, k2⟩ := HD6.out.k hin
                  go_wp2_with fail
                  refine CF6.mono ?_; rintro e w7 ⟨rfl, hb⟩
                  have HS7 : Hid _ := HS6.out.bel hb
                  have HD7 : Hid _ := HD6.out.below hb
                  have X7 := HX6.out.below hb
                  have y0 := X7.c0
                  have y1 := X7.c1
                  have y2 := X7.c2
                  clear CF6 hb HS6 HD6 k0 k1 k2 HX6 hW6 X7
                  obtain ⟨k0, k1, k2⟩ := HD7.out.k hin
                  obtain ⟨x0, x1, x2⟩ := HD7.out.x hin
                  have N := neq32 (g.X i).1 (g.X i).2.1 (g.X i).1 (g.X i).2.1 (g.X i).2.2 (g.X i).2.2
                  simp only [decide_true, Bool.not_true] at N
                  unfold vl at N
                  have g32 := guard32
                  generalize w5.heap.size = B5 at *
                  go_wp2_with fail
                  go_quiet (fail)
                  go_wp2_with fail
                  go_round
                  case rel => exact ⟨i + 1, s + r, h + 1, by go_num, by go_num, by go_num, by omega, by omega, by omega, HSH2, HS7.out.bel (bdrew _ _ _), HD7.out.below (bdrew _ _ _)⟩
                  case measure => simp [intOf]; omega
              · have hin' : ¬ (i : Int) < (n : Int) := by omega
                have hiN : i = n := by omega
                subst hiN
                have HBl : Hid _ := HSi.out.below (Nat.le_refl _)
                have hsum : s ≤ tri h ∧ h ≤ s := by
                  rw [HSH.out.1, HSH.out.2]
                  by_cases h0 : i = 0
                  · subst h0; exact ⟨Nat.le_refl _, Nat.le_refl _⟩
                  · exact HSi.out.inv.sum_rds (fun k _ => pl_lt (HR.out.resolve_left h0) k)
                have C1 := d1_any wr HSi.out.pt
                unfold pp at C1
                clear HSi HDi
                have hle := tri_le (show h ≤ 512 by omega)
                have h2 := tri_two h
                obtain ⟨Tt, hTt⟩ : ∃ Tt, tri h = Tt := ⟨_, rfl⟩
                rw [hTt] at hsum hle h2
                have h3 : (h : Int) * ((h : Int) + 1) = 2 * (Tt : Int) := by exact_mod_cast h2.symm
                have h4 : (h : Int) ≤ (s : Int) := by omega
                have h5 : (s : Int) ≤ (Tt : Int) := by omega
                clear h2 hTt hsum HSH
                go_wp2_with fail
                refine C1.mono ?_; rintro e w8 ⟨rfl, rfl⟩
                go_wp2_with fail
                go_ret
                exact ⟨ret_bool (by first | rfl | (simp; done) | (simp; omega)), HBl.out⟩
end Go.Proofs.Ytbkgbojfjijalab

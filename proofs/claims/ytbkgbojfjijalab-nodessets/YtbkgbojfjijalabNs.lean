/- The walk of NodesSets. -/
import Derived.Test.YtbkgbojfjijalabDm
import Derived.Deep.RegionWith
namespace Go.Proofs.Ytbkgbojfjijalab
open Go.RowKit

theorem put_some {z : Nat} {g : G} {k v : V} {i n : Nat} (hv : fm v = true) (h : fnd z g k = (some i, n)) : put z g k v = (setX g i v, n, 0) := by
  unfold fnd at h
  by_cases hb : z = 0 ∨ fm k = false ∨ k.1 = 0
  · rw [if_pos hb] at h; cases h
  · rw [if_neg hb] at h
    simp only [not_or, Bool.not_eq_false] at hb
    rw [put, if_pos ⟨hb.2.1, hv⟩, if_neg hb.2.2, if_neg hb.1, h]
theorem put_none {z : Nat} {g : G} {k : V} {n : Nat} (h : fnd z g k = (none, n)) : ∃ m e, put z g k nil = (g, m, e) ∧ (e = 0 → m = n) := by
  unfold fnd at h
  have hn : fm nil = true := by simp [fm, inF, nil, ByteArray.toList_eq]
  by_cases hf : fm k = true
  · by_cases hk : k.1 = 0
    · exact ⟨0, 9, by rw [put, if_pos ⟨hf, hn⟩, if_pos hk], fun e => by cases e⟩
    · by_cases hz : z = 0
      · rw [if_pos (.inl hz)] at h
        exact ⟨0, 0, by rw [put, if_pos ⟨hf, hn⟩, if_neg hk, if_pos hz]; rfl, fun _ => by cases h; rfl⟩
      · rw [if_neg (by simp [hz, hf, hk])] at h
        exact ⟨n, 0, by rw [put, if_pos ⟨hf, hn⟩, if_neg hk, if_neg hz, h]; rfl, fun _ => rfl⟩
  · exact ⟨0, 2, by rw [put, if_neg (fun q => hf q.1)], fun e => by cases e⟩

set_option maxRecDepth 100000 in
set_option maxHeartbeats 8000000 in
theorem sets_walk (z : Int) (L : Nat) (Q : Nat → Int × V × V) (x : V) (v : Value) (W : World) (hO : Ops W.heap.size W v L Q) (hL : L * 72 ≤ 140737488355328) :
    Calls Try.prog 3 #[.int .i64 z, v, vl x.1 x.2.1 x.2.2] W fun e w' => e = .returned (.bool true) ∧ Below W.heap.size W w' := by
  obtain ⟨W1, hW1⟩ : ∃ W1, W.alloc (vb x.1 x.2.1 x.2.2) = W1 := ⟨_, rfl⟩
  have hb1 : Below W.heap.size W W1 := by rw [← hW1]; exact b1 _ _
  have X1 : Bx W1 W.heap.size x := by rw [← hW1]; exact Bx.made W x
  have F1 : ∀ j, W1.frozen? ⟨W.heap.size, j, none⟩ = false := fun j => by rw [← hW1]; exact new_free W _ _ j
  have CF := fixed_any W1
  have HB1 : Hid _ := hb1
  have HX1 : Hid _ := X1
  have HF1 : Hid _ := F1
  unfold vl
  unfold vb at hW1
  clear hb1 X1 F1
  by_cases hbad : rt z = false ∨ 4096 < z
  · have CB := fun w => begin_bad z w hbad
    have HA : Hid (0 ≤ z → z ≤ 512 → (bits .and .i64 z (z - 1) != 0) = true) := fun h0 h1 => by
      rcases hbad with h | h
      · exact bad_and h h0 (by omega)
      · omega
    clear hbad hO
    go_enter Try.func3, Try.ntmps3
    go_wp2_with fail
    refine CF.mono ?_; rintro e w0 ⟨rfl, hb⟩
    have HB : Hid _ := bthen HB1.out HB1.out.size hb
    clear hb CF
    go_wp2_with fail
    refine (CB _).mono ?_; rintro e w0 ⟨rfl, rfl⟩
    clear CB
    by_cases h0 : z < 0
    · go_wp2_with fail
      go_ret
      exact ⟨rfl, HB.out⟩
    · by_cases h1 : 512 < z
      · go_wp2_with fail
        go_ret
        exact ⟨rfl, HB.out⟩
      · have ha := HA.out (by omega) (by omega)
        go_wp2_with fail
        go_ret
        exact ⟨rfl, HB.out⟩
  · simp only [not_or, Bool.not_eq_false] at hbad
    obtain ⟨n, rfl, hR⟩ := Rt.of hbad.1
    have hn : n ≤ 4096 := by have := hbad.2; omega
    clear hbad
    have CB := fun w => begin_any n w hR hn
    by_cases h256 : 512 < n
    · clear hO
      have h256' : 512 < (n : Int) := by omega
      unfold pp at CB
      go_enter Try.func3, Try.ntmps3
      go_wp2_with fail
      refine CF.mono ?_; rintro e w0 ⟨rfl, hb⟩
      have HB : Hid _ := bthen HB1.out HB1.out.size hb
      clear hb CF
      go_wp2_with fail
      refine (CB _).mono ?_; rintro e w2 ⟨S, ka, va, ca, w1, rfl, h1, h2⟩
      have HS : Hid _ := (St.start HB.out h1 h2).keep
      clear CB h1 h2
      go_wp2_with fail
      go_ret
      exact ⟨rfl, HS.out.below (Nat.le_refl _) (fun _ h => h)⟩
    · have h256' : ¬ 512 < (n : Int) := by omega
      have HO : Hid (Ops W.heap.size W v L Q) := hO
      obtain ⟨va0, cap, hva, hrng, _⟩ := id hO
      have HVA : Hid (v = .slice va0 L cap) := hva
      rw [hva]
      clear hva
      have HRng : Hid _ := hrng
      have HR : Hid (Rt n) := hR
      clear hO hrng hR
      unfold pp at CB
      go_enter Try.func3, Try.ntmps3
      go_wp2_with fail
      refine CF.mono ?_; rintro e w0 ⟨rfl, hb⟩
      have HB : Hid _ := bthen HB1.out HB1.out.size hb
      have X0 := HX1.out.below hb
      have F0 : ∀ j, w0.frozen? ⟨W.heap.size, j, none⟩ = false := fun j => by rw [hb.frozen (by exact HX1.out.lt)]; exact HF1.out j
      have HBs : Hid (W.heap.size + 1 ≤ w0.heap.size) := Nat.succ_le_of_lt X0.lt
      clear hb CF
      go_wp2_with fail
      refine (CB _).mono ?_; rintro e w2 ⟨S, ka, va, ca, w1, rfl, h1, h2⟩
      have HS : Hid _ := St.start HB.out h1 h2
      have hb02 : Below w0.heap.size w0 w2 := by subst h1; exact bthen (newW_below w0 n) (newW_below w0 n).size h2.bel
      have X2 := X0.below hb02
      have F2 : ∀ j, w2.frozen? ⟨W.heap.size, j, none⟩ = false := fun j => by rw [hb02.frozen (by exact X0.lt)]; exact F0 j
      clear CB h1 h2 hb02 X0 F0
      obtain ⟨a, ha⟩ : ∃ a, w0.heap.size = a := ⟨_, rfl⟩
      rw [ha] at HS HBs ⊢
      have HAB : Hid (W.heap.size < a ∧ W.heap.size < a + 1) := ⟨HBs.out, by have := HBs.out; omega⟩
      clear ha HBs HB
      have d0 := X2.c0
      have d1 := X2.c1
      have d2 := X2.c2
      have HX2 : Hid _ := X2
      have HF2 : Hid _ := F2
      clear X2 F2 HX1 HF1 HB1 hW1
      have CK := rcheck_any x.1 x.2.1 x.2.2
      rw [chk_of] at CK
      unfold vl vb at CK
      have REST : ∃ vv : V, fm vv = true ∧ vv = (if fm x = true then x else ki 3) := ⟨_, by
        split
        · assumption
        · exact fm_ki 3, rfl⟩
      obtain ⟨vv, hvv, hvx⟩ := REST
      have HVV : Hid (fm vv = true) := hvv
      clear hvv
      go_wp2_with fail
      refine (CK _).mono ?_; rintro e w3 ⟨rfl, rfl⟩
      clear CK
      have hb3 := b1 w2 (.cells #[.int .i64 x.1, .int .i64 x.2.1, .string x.2.2] 24)
      generalize w2.alloc (.cells #[.int .i64 x.1, .int .i64 x.2.1, .string x.2.2] 24) = w3 at *
      have HS3 : Hid _ := HS.out.bel hb3
      have X3 := HX2.out.below hb3
      have F3 : ∀ j, w3.frozen? ⟨W.heap.size, j, none⟩ = false := fun j => by rw [hb3.frozen (by exact HX2.out.lt)]; exact HF2.out j
      clear hb3 HS HX2 HF2 d0 d1 d2
      by_cases hfx : fm x = true
      · obtain rfl : vv = x := by rw [hvx, if_pos hfx]
        rw [if_pos hfx]
        have HV3 : Hid _ := X3
        clear X3 F3 hvx hfx
        go_wp2_with fail
        have HAB' : Hid (W.heap.size ≤ a ∧ W.heap.size ≤ a + 1) := ⟨by have := HAB.out; omega, by have := HAB.out; omega⟩
        go_loopw [10] (fun iw wr => ∃ (k : Nat), iw = .int .i64 (k : Nat) ∧ k ≤ L ∧ Hid (∃ g, St W.heap.size W wr (a + 1) a n g) ∧ Hid (Bx wr W.heap.size vv)) (fun iw _ => L - (intOf iw).toNat)
        case atStart => exact ⟨0, rfl, by omega, ⟨_, HS3.out⟩, HV3⟩
        case round =>
          obtain ⟨k, rfl, hk, HG, HVk⟩ := hrel
          obtain ⟨g, hS⟩ := HG.out
          clear HG HS3 HV3
          by_cases hlt : k < L ∧ k < 60
          · obtain ⟨hlt, h400⟩ := hlt
            have hlt' : (k : Int) < (L : Int) := by omega
            have h400' : (k : Int) < 60 := by omega
            obtain ⟨lb, off, cap2, hv, hlb, o0, o1, o2, o3, o4, o5, o6⟩ := (HO.out.below (hS.below (Nat.le_refl _))).at hlt
            rw [HVA.out] at hv
            obtain ⟨rfl, rfl⟩ : va0 = some ⟨lb, off, none⟩ ∧ cap = cap2 := by simpa using hv
            have HLB : Hid (lb < W.heap.size) := hlb
            clear hv hlb
            have CP := put_all (Q k).2.1 (Q k).2.2 wr.drew (hS.pt.below (bdrew1 _)) hS.inv HR.out (HRng.out k hlt)
            have HST : Hid (∀ w', Pt w' (a + 1) a n (put n g (Q k).2.1 (Q k).2.2).1 → Keep (fun y => y ≠ a ∧ y ≠ a + 1) wr.drew w' → St W.heap.size W w' (a + 1) a n (put n g (Q k).2.1 (Q k).2.2).1 ∧ Bx w' W.heap.size vv) := fun w' h1 h2 => ⟨(hS.bel (bdrew1 _)).put HR.out (HRng.out k hlt) h1 h2 HAB'.out, (HVk.out.below (bdrew1 _)).kept h2 (by have := HAB.out; show W.heap.size ≠ a ∧ W.heap.size ≠ a + 1; omega)⟩
            have HOx : Hid (∀ w', Below W.heap.size W w' → w'.cell? ⟨lb, off + k * 7 + 1, none⟩ = some (.int .i64 (Q k).2.1.1) ∧ w'.cell? ⟨lb, off + k * 7 + 2, none⟩ = some (.int .i64 (Q k).2.1.2.1) ∧ w'.cell? ⟨lb, off + k * 7 + 3, none⟩ = some (.string (Q k).2.1.2.2)) := by
              intro w' hw'
              have hb0 := hS.below (Nat.le_refl W.heap.size)
              refine ⟨?_, ?_, ?_⟩
              · rw [hw'.cell (by exact HLB.out), ← hb0.cell (by exact HLB.out)]; exact o1
              · rw [hw'.cell (by exact HLB.out), ← hb0.cell (by exact HLB.out)]; exact o2
              · rw [hw'.cell (by exact HLB.out), ← hb0.cell (by exact HLB.out)]; exact o3
            have HRk : Hid (Rng (Q k).2.1) := HRng.out k hlt
            generalize put n g (Q k).2.1 (Q k).2.2 = r at *
            unfold pp vl at CP
            clear hS
            go_wp2_with fail
            refine wp_tail 11 (by kernel_rfl) (by kernel_rfl) ?_
            simp only [List.take_succ_cons, List.take_zero, List.drop_succ_cons, List.drop_zero]
            repeat still_step
            refine wpStill_nil ?_
            go_wp2_with fail
            refine CP.mono ?_; rintro e w3 ⟨rfl, hp, hk2⟩
            obtain ⟨hS3, hV3⟩ := HST.out w3 hp hk2
            have HS3 : Hid _ := hS3
            have HV3 : Hid _ := hV3
            clear CP HST hp hk2 o0 o1 o2 o3 o4 o5 o6 hS3 hV3
            have CD := dump_any w3 HS3.out.pt HR.out.le
            obtain ⟨g3, hg3⟩ : ∃ g3, r.1 = g3 := ⟨_, rfl⟩
            rw [hg3] at CD HS3
            clear hg3
            unfold pp at CD
            go_wp2_with fail
            refine CD.mono ?_; rintro e w4 ⟨D1, c1', rfl, hrow, hfz, hDge, hDlt, hb⟩
            have HS4 : Hid _ := HS3.out.bel hb
            have HV4 : Hid _ := HV3.out.below hb
            have HD4 : Hid (Dm w4 D1 n g3) := ⟨hrow, hDlt⟩
            have HDA : Hid (D1 ≠ a ∧ D1 ≠ a + 1) := by
              have q1 := HS3.out.pt.lta
              have q2 := HS3.out.pt.ltb
              show D1 ≠ a ∧ D1 ≠ a + 1
              omega
            clear CD hrow hfz hDge hDlt hb HS3 HV3
            have CFi := find_all (Q k).2.1 w4 HS4.out.pt HS4.out.inv HR.out HRk.out
            have HFN : Hid (∀ i m, fnd n g3 (Q k).2.1 = (some i, m) → i < n) := fun i m hf => (fnd_lt HS4.out.inv HR.out HRk.out hf).1
            obtain ⟨o1, o2, o3⟩ := HOx.out w4 (HS4.out.below (Nat.le_refl _))
            unfold pp vl at CFi
            go_wp2_with fail
            refine CFi.mono ?_; rintro e w5 ⟨rfl, hb⟩
            have HS5 : Hid _ := HS4.out.bel hb
            have HV5 : Hid _ := HV4.out.below hb
            have HD5 : Hid _ := HD4.out.below hb
            clear CFi hb HS4 HV4 HD4 o1 o2 o3
            have v0 := HV5.out.c0
            have v1 := HV5.out.c1
            have v2 := HV5.out.c2
            have hv5 : W.heap.size < w5.heap.size := HV5.out.lt
            cases hf : fnd n g3 (Q k).2.1 with
            | mk o m =>
              cases o with
              | some i0 =>
                have hi0 := HFN.out i0 m hf
                have HPS : Hid (put n g3 (Q k).2.1 vv = (setX g3 i0 vv, m, 0)) := put_some HVV.out hf
                have hi0' : ¬ ((i0 : Int) < 0) := by omega
                simp only [fi]
                clear hf HFN
                obtain ⟨W6, hW6⟩ : ∃ W6, w5.alloc (vb vv.1 vv.2.1 vv.2.2) = W6 := ⟨_, rfl⟩
                have hb6 : Below w5.heap.size w5 W6 := by rw [← hW6]; exact b1 _ _
                have HX6 : Hid (Bx W6 w5.heap.size vv) := by rw [← hW6]; exact Bx.made w5 vv
                have HS6 : Hid _ := HS5.out.bel hb6
                have HV6 : Hid _ := HV5.out.below hb6
                have HD6 : Hid _ := HD5.out.below hb6
                unfold vb at hW6
                clear hb6 HS5 HV5 HD5
                go_wp2_with fail
                obtain ⟨o1, o2, o3⟩ := HOx.out W6 (HS6.out.below (Nat.le_refl _))
                obtain ⟨B6, hB6⟩ : ∃ B6, w5.heap.size = B6 := ⟨_, rfl⟩
                rw [hB6] at HX6
                simp only [hB6]
                clear hB6 v0 v1 v2 hv5 hW6
                have b0 := HX6.out.c0
                have b1 := HX6.out.c1
                have b2 := HX6.out.c2
                have CP := put_all (Q k).2.1 vv W6.drew (HS6.out.pt.below (bdrew1 _)) HS6.out.inv HR.out HRk.out
                have HST : Hid (∀ w', Pt w' (a + 1) a n (put n g3 (Q k).2.1 vv).1 → Keep (fun y => y ≠ a ∧ y ≠ a + 1) W6.drew w' → St W.heap.size W w' (a + 1) a n (put n g3 (Q k).2.1 vv).1 ∧ Bx w' W.heap.size vv ∧ Dm w' D1 n g3) := fun w' h1 h2 => ⟨(HS6.out.bel (bdrew1 _)).put HR.out HRk.out h1 h2 HAB'.out, (HV6.out.below (bdrew1 _)).kept h2 (by have := HAB.out; show W.heap.size ≠ a ∧ W.heap.size ≠ a + 1; omega), by
                  have h3 := HD6.out.below (bdrew1 W6)
                  exact ⟨h3.row.block (h2.block D1 h3.lt HDA.out), Nat.lt_of_lt_of_le h3.lt h2.size⟩⟩
                rw [HPS.out] at CP HST
                unfold pp vl at CP
                go_region_with (go_at_call 9; refine CP.mono ?_; rintro e w7 ⟨rfl, hp, hk2⟩)
                all_goals
                  obtain ⟨hS7, hV7, hD7⟩ := HST.out w7 hp hk2
                  have HS7 : Hid _ := hS7
                  have HV7 : Hid _ := hV7
                  have HD7 : Hid _ := hD7
                  clear CP HST hp hk2 o1 o2 o3 b0 b1 b2 hS7 hV7 hD7 HX6 HS6 HV6 HD6
                  have CD := dump_any w7 HS7.out.pt HR.out.le
                  unfold pp at CD
                  go_wp2_with fail
                  refine CD.mono ?_; rintro e w8 ⟨D2, c2', rfl, hrow, hfz, hDge, hDlt, hb⟩
                  have HS8 : Hid _ := HS7.out.bel hb
                  have HV8 : Hid _ := HV7.out.below hb
                  have HD1 : Hid _ := HD7.out.below hb
                  have HD2 : Hid (Dm w8 D2 n (setX g3 i0 vv)) := ⟨hrow, hDlt⟩
                  clear CD hrow hfz hDge hDlt hb HS7 HV7 HD7
                  go_wp2_with fail
                  go_loopw [18] (fun jw wr => ∃ j : Nat, jw = .int .i64 (j : Nat) ∧ j ≤ n ∧ Hid (St W.heap.size W wr (a + 1) a n (setX g3 i0 vv)) ∧ Hid (Bx wr W.heap.size vv) ∧ Hid (Dm wr D1 n g3) ∧ Hid (Dm wr D2 n (setX g3 i0 vv))) (fun jw _ => n - (intOf jw).toNat)
                  case atStart => exact ⟨0, rfl, by omega, HS8, HV8, HD1, HD2⟩
                  case round =>
                    obtain ⟨j, rfl, hj, HSj, HVj, HDa, HDb⟩ := hrel
                    clear HS8 HV8 HD1 HD2
                    by_cases hjn : j < n
                    · have hjn' : (j : Int) < (n : Int) := by omega
                      obtain ⟨k0, k1, k2⟩ := HDa.out.k hjn
                      obtain ⟨x0, x1, x2⟩ := HDa.out.x hjn
                      have l6 := HDa.out.l hjn
                      have hlt2 : D2 < wr.heap.size := HDb.out.lt
                      have hltB : W.heap.size < wr.heap.size := HVj.out.lt
                      have g54 := guard54
                      by_cases hji : j = i0
                      · subst hji
                        have v0 := HVj.out.c0
                        have v1 := HVj.out.c1
                        have v2 := HVj.out.c2
                        obtain ⟨q0, q1, q2⟩ := HDb.out.k hjn
                        obtain ⟨q3, q4, q5⟩ := HDb.out.x hjn
                        have q6 := HDb.out.l hjn
                        rw [show (setX g3 j vv).K j = g3.K j from rfl] at q0 q1 q2
                        rw [show (setX g3 j vv).X j = vv from upd_at _ _ _] at q3 q4 q5
                        rw [link_setX] at q6
                        have ne54 := neq54 (g3.K j) vv (g3.K j) vv (link (pl n) g3 j) (link (pl n) g3 j)
                        simp only [decide_true, and_self, Bool.not_true] at ne54
                        unfold vn at ne54
                        have HB : Hid (∀ o, Below wr.heap.size wr (wr.alloc o)) := fun o => b1 wr o
                        generalize link (pl n) g3 j = l6v at *
                        go_wp2_with fail
                        go_quiet (fail)
                        go_wp2_with fail
                        go_round
                        case rel => exact ⟨j + 1, by go_num, by omega, (HSj.out.bel (HB.out _)).bel (bdrew _ _ _), (HVj.out.below (HB.out _)).below (bdrew _ _ _), (HDa.out.below (HB.out _)).below (bdrew _ _ _), (HDb.out.below (HB.out _)).below (bdrew _ _ _)⟩
                        case measure => simp [intOf]; omega
                      · have hji' : ((j : Int) == (i0 : Int)) = false := by simp; omega
                        obtain ⟨q0, q1, q2⟩ := HDb.out.k hjn
                        obtain ⟨q3, q4, q5⟩ := HDb.out.x hjn
                        have q6 := HDb.out.l hjn
                        rw [show (setX g3 i0 vv).K j = g3.K j from rfl] at q0 q1 q2
                        rw [show (setX g3 i0 vv).X j = g3.X j from upd_ne _ _ hji] at q3 q4 q5
                        rw [link_setX] at q6
                        have ne54 := neq54 (g3.K j) (g3.X j) (g3.K j) (g3.X j) (link (pl n) g3 j) (link (pl n) g3 j)
                        simp only [decide_true, and_self, Bool.not_true] at ne54
                        unfold vn at ne54
                        have HB : Hid (∀ o, Below wr.heap.size wr (wr.alloc o)) := fun o => b1 wr o
                        generalize link (pl n) g3 j = l6v at *
                        go_wp2_with fail
                        go_quiet (fail)
                        go_wp2_with fail
                        go_round
                        case rel => exact ⟨j + 1, by go_num, by omega, (HSj.out.bel (HB.out _)).bel (bdrew _ _ _), (HVj.out.below (HB.out _)).below (bdrew _ _ _), (HDa.out.below (HB.out _)).below (bdrew _ _ _), (HDb.out.below (HB.out _)).below (bdrew _ _ _)⟩
                        case measure => simp [intOf]; omega

                    · have hjn' : ¬ (j : Int) < (n : Int) := by omega
                      go_wp2_with fail
                      go_round
                      case rel => exact ⟨k + 1, by go_num, by omega, ⟨_, HSj.out⟩, HVj⟩
                      case measure => simp [intOf]; omega
              | none =>
                obtain ⟨m2, e2, hp2, he2⟩ := put_none hf
                have HPS : Hid (put n g3 (Q k).2.1 nil = (g3, m2, e2)) := hp2
                have HE2 : Hid (e2 = 0 → m2 = m) := he2
                simp only [fi]
                clear hf HFN hp2 he2
                obtain ⟨W6, hW6⟩ : ∃ W6, w5.alloc (vb nil.1 nil.2.1 nil.2.2) = W6 := ⟨_, rfl⟩
                have hb6 : Below w5.heap.size w5 W6 := by rw [← hW6]; exact b1 _ _
                have HX6 : Hid (Bx W6 w5.heap.size nil) := by rw [← hW6]; exact Bx.made w5 nil
                have HS6 : Hid _ := HS5.out.bel hb6
                have HV6 : Hid _ := HV5.out.below hb6
                have HD6 : Hid _ := HD5.out.below hb6
                unfold vb at hW6
                unfold nil at hW6
                simp only at hW6
                have HW6 : Hid _ := hW6
                clear hW6
                clear hb6 HS5 HV5 HD5
                go_wp2_with fail
                have hW6 := HW6.out
                rw [hW6]
                clear HW6
                obtain ⟨o1, o2, o3⟩ := HOx.out W6 (HS6.out.below (Nat.le_refl _))
                obtain ⟨B6, hB6⟩ : ∃ B6, w5.heap.size = B6 := ⟨_, rfl⟩
                rw [hB6] at HX6
                simp only [hB6]
                clear hB6 v0 v1 v2 hv5 hW6
                have b0 := HX6.out.c0
                have b1 := HX6.out.c1
                have b2 := HX6.out.c2
                have CP := put_all (Q k).2.1 nil W6.drew (HS6.out.pt.below (bdrew1 _)) HS6.out.inv HR.out HRk.out
                have HST : Hid (∀ w', Pt w' (a + 1) a n (put n g3 (Q k).2.1 nil).1 → Keep (fun y => y ≠ a ∧ y ≠ a + 1) W6.drew w' → St W.heap.size W w' (a + 1) a n (put n g3 (Q k).2.1 nil).1 ∧ Bx w' W.heap.size vv ∧ Dm w' D1 n g3) := fun w' h1 h2 => ⟨(HS6.out.bel (bdrew1 _)).put HR.out HRk.out h1 h2 HAB'.out, (HV6.out.below (bdrew1 _)).kept h2 (by have := HAB.out; show W.heap.size ≠ a ∧ W.heap.size ≠ a + 1; omega), by
                  have h3 := HD6.out.below (bdrew1 W6)
                  exact ⟨h3.row.block (h2.block D1 h3.lt HDA.out), Nat.lt_of_lt_of_le h3.lt h2.size⟩⟩
                rw [HPS.out] at CP HST
                unfold pp vl at CP
                go_region_with (go_at_call 9; refine CP.mono ?_; rintro e w7 ⟨rfl, hp, hk2⟩)
                all_goals
                  obtain ⟨hS7, hV7, hD7⟩ := HST.out w7 hp hk2
                  have HS7 : Hid _ := hS7
                  have HV7 : Hid _ := hV7
                  have HD7 : Hid _ := hD7
                  clear CP HST hp hk2 o1 o2 o3 b0 b1 b2 hS7 hV7 hD7 HX6 HS6 HV6 HD6
                  have CD := dump_any w7 HS7.out.pt HR.out.le
                  unfold pp at CD
                  go_wp2_with fail
                  refine CD.mono ?_; rintro e w8 ⟨D2, c2', rfl, hrow, hfz, hDge, hDlt, hb⟩
                  have HS8 : Hid _ := HS7.out.bel hb
                  have HV8 : Hid _ := HV7.out.below hb
                  have HD1 : Hid _ := HD7.out.below hb
                  have HD2 : Hid (Dm w8 D2 n g3) := ⟨hrow, hDlt⟩
                  clear CD hrow hfz hDge hDlt hb HS7 HV7 HD7
                  by_cases he : e2 = 0
                  · obtain rfl := HE2.out he
                    subst he
                    go_wp2_with fail
                    go_loopw [18] (fun jw wr => ∃ j : Nat, jw = .int .i64 (j : Nat) ∧ j ≤ n ∧ Hid (St W.heap.size W wr (a + 1) a n g3) ∧ Hid (Bx wr W.heap.size vv) ∧ Hid (Dm wr D1 n g3) ∧ Hid (Dm wr D2 n g3)) (fun jw _ => n - (intOf jw).toNat)
                    case atStart => exact ⟨0, rfl, by omega, HS8, HV8, HD1, HD2⟩
                    case round =>
                      obtain ⟨j, rfl, hj, HSj, HVj, HDa, HDb⟩ := hrel
                      clear HS8 HV8 HD1 HD2
                      by_cases hjn : j < n
                      · have hjn' : (j : Int) < (n : Int) := by omega
                        obtain ⟨k0, k1, k2⟩ := HDa.out.k hjn
                        obtain ⟨x0, x1, x2⟩ := HDa.out.x hjn
                        have l6 := HDa.out.l hjn
                        have hlt2 : D2 < wr.heap.size := HDb.out.lt
                        have hltB : W.heap.size < wr.heap.size := HVj.out.lt
                        have g54 := guard54
                        have hji' : ((j : Int) == (-1 : Int)) = false := by first | (simp; done) | (simp; omega)
                        obtain ⟨q0, q1, q2⟩ := HDb.out.k hjn
                        obtain ⟨q3, q4, q5⟩ := HDb.out.x hjn
                        have q6 := HDb.out.l hjn
                        skip
                        have ne54 := neq54 (g3.K j) (g3.X j) (g3.K j) (g3.X j) (link (pl n) g3 j) (link (pl n) g3 j)
                        simp only [decide_true, and_self, Bool.not_true] at ne54
                        unfold vn at ne54
                        have HB : Hid (∀ o, Below wr.heap.size wr (wr.alloc o)) := fun o => b1 wr o
                        generalize link (pl n) g3 j = l6v at *
                        go_wp2_with fail
                        go_quiet (fail)
                        go_wp2_with fail
                        go_round
                        case rel => exact ⟨j + 1, by go_num, by omega, (HSj.out.bel (HB.out _)).bel (bdrew _ _ _), (HVj.out.below (HB.out _)).below (bdrew _ _ _), (HDa.out.below (HB.out _)).below (bdrew _ _ _), (HDb.out.below (HB.out _)).below (bdrew _ _ _)⟩
                        case measure => simp [intOf]; omega

                      · have hjn' : ¬ (j : Int) < (n : Int) := by omega
                        go_wp2_with fail
                        go_round
                        case rel => exact ⟨k + 1, by go_num, by omega, ⟨_, HSj.out⟩, HVj⟩
                        case measure => simp [intOf]; omega
                  · have he' : (e2 == 0) = false := by simpa using he
                    go_wp2_with fail
                    go_loopw [18] (fun jw wr => ∃ j : Nat, jw = .int .i64 (j : Nat) ∧ j ≤ n ∧ Hid (St W.heap.size W wr (a + 1) a n g3) ∧ Hid (Bx wr W.heap.size vv) ∧ Hid (Dm wr D1 n g3) ∧ Hid (Dm wr D2 n g3)) (fun jw _ => n - (intOf jw).toNat)
                    case atStart => exact ⟨0, rfl, by omega, HS8, HV8, HD1, HD2⟩
                    case round =>
                      obtain ⟨j, rfl, hj, HSj, HVj, HDa, HDb⟩ := hrel
                      clear HS8 HV8 HD1 HD2
                      by_cases hjn : j < n
                      · have hjn' : (j : Int) < (n : Int) := by omega
                        obtain ⟨k0, k1, k2⟩ := HDa.out.k hjn
                        obtain ⟨x0, x1, x2⟩ := HDa.out.x hjn
                        have l6 := HDa.out.l hjn
                        have hlt2 : D2 < wr.heap.size := HDb.out.lt
                        have hltB : W.heap.size < wr.heap.size := HVj.out.lt
                        have g54 := guard54
                        have hji' : ((j : Int) == (-1 : Int)) = false := by first | (simp; done) | (simp; omega)
                        obtain ⟨q0, q1, q2⟩ := HDb.out.k hjn
                        obtain ⟨q3, q4, q5⟩ := HDb.out.x hjn
                        have q6 := HDb.out.l hjn
                        skip
                        have ne54 := neq54 (g3.K j) (g3.X j) (g3.K j) (g3.X j) (link (pl n) g3 j) (link (pl n) g3 j)
                        simp only [decide_true, and_self, Bool.not_true] at ne54
                        unfold vn at ne54
                        have HB : Hid (∀ o, Below wr.heap.size wr (wr.alloc o)) := fun o => b1 wr o
                        generalize link (pl n) g3 j = l6v at *
                        go_wp2_with fail
                        go_quiet (fail)
                        go_wp2_with fail
                        go_round
                        case rel => exact ⟨j + 1, by go_num, by omega, (HSj.out.bel (HB.out _)).bel (bdrew _ _ _), (HVj.out.below (HB.out _)).below (bdrew _ _ _), (HDa.out.below (HB.out _)).below (bdrew _ _ _), (HDb.out.below (HB.out _)).below (bdrew _ _ _)⟩
                        case measure => simp [intOf]; omega

                      · have hjn' : ¬ (j : Int) < (n : Int) := by omega
                        go_wp2_with fail
                        go_round
                        case rel => exact ⟨k + 1, by go_num, by omega, ⟨_, HSj.out⟩, HVj⟩
                        case measure => simp [intOf]; omega
          · have HBl : Hid _ := hS.below (Nat.le_refl _)
            clear hS
            by_cases hlt2 : k < L
            · have hlt' : (k : Int) < (L : Int) := by omega
              have h400' : ¬ (k : Int) < 60 := by omega
              clear hlt
              go_wp2_with fail
              go_ret
              exact ⟨rfl, HBl.out⟩
            · have hlt' : ¬ (k : Int) < (L : Int) := by omega
              clear hlt
              go_wp2_with fail
              go_ret
              exact ⟨rfl, HBl.out⟩
      · have hvk : vv = ki 3 := by rw [hvx, if_neg hfx]
        rw [if_neg hfx]
        have CI := mkI 3
        unfold vl at CI
        have HX3 : Hid _ := X3
        have HF3 : Hid _ := F3
        clear X3 F3 hvx hfx
        go_wp2_with fail
        refine (CI _).mono ?_; rintro e w4 ⟨rfl, hb4⟩
        have HS4 := HS3.out.bel hb4
        have X4 := HX3.out.below hb4
        have F4 : ∀ j, w4.frozen? ⟨W.heap.size, j, none⟩ = false := fun j => by rw [hb4.frozen (by exact HX3.out.lt)]; exact HF3.out j
        obtain ⟨w5, hw5⟩ : ∃ w5, ((w4.setCell ⟨W.heap.size, 0, none⟩ (.int .i64 2)).setCell ⟨W.heap.size, 1, none⟩ (.int .i64 3)).setCell ⟨W.heap.size, 2, none⟩ (.string ⟨#[]⟩) = w5 := ⟨_, rfl⟩
        have K5 : Keep (fun y => y ≠ W.heap.size) w4 w5 := by
          rw [← hw5]
          exact (((Keep.refl _ _).set (p := ⟨W.heap.size, 0, none⟩) (fun q => q rfl) _).set (p := ⟨W.heap.size, 1, none⟩) (fun q => q rfl) _).set (p := ⟨W.heap.size, 2, none⟩) (fun q => q rfl) _
        have X5 : Bx w5 W.heap.size (ki 3) := by
          rw [← hw5]
          refine ⟨?_, ?_, ?_, by simpa [World.setCell] using X4.lt⟩
          · rw [World.cell?_setCell_other _ _ _ _ (fun q => by injection q with _ q2; omega), World.cell?_setCell_other _ _ _ _ (fun q => by injection q with _ q2; omega)]
            exact World.cell?_setCell_same _ _ _ X4.c0
          · rw [World.cell?_setCell_other _ _ _ _ (fun q => by injection q with _ q2; omega)]
            exact World.cell?_setCell_same _ _ _ (by rw [World.cell?_setCell_other _ _ _ _ (fun q => by injection q with _ q2; omega)]; exact X4.c1)
          · exact World.cell?_setCell_same _ _ _ (by rw [World.cell?_setCell_other _ _ _ _ (fun q => by injection q with _ q2; omega), World.cell?_setCell_other _ _ _ _ (fun q => by injection q with _ q2; omega)]; exact X4.c2)
        have HS5 : St W.heap.size W w5 (a + 1) a n (g0 n) := ⟨HS4.pt.kept K5 (by have := HAB.out; show a + 1 ≠ W.heap.size; omega) (by have := HAB.out; show a ≠ W.heap.size; omega), HS4.inv, HS4.keep.trans (K5.sub fun y hy => by show y ≠ W.heap.size; have : y < W.heap.size := hy; omega)⟩
        have c0 := X4.c0
        have c1 := X4.c1
        have c2 := X4.c2
        have HS3 : Hid _ := HS5
        have HV3 : Hid (Bx w5 W.heap.size vv) := by rw [hvk]; exact X5
        clear HS4 X4 K5 X5 HS5 hb4 HX3 HF3 CI hvk
        go_wp2_with fail
        clear c0 c1 c2 F4 hw5
        have HAB' : Hid (W.heap.size ≤ a ∧ W.heap.size ≤ a + 1) := ⟨by have := HAB.out; omega, by have := HAB.out; omega⟩
        go_loopw [10] (fun iw wr => ∃ (k : Nat), iw = .int .i64 (k : Nat) ∧ k ≤ L ∧ Hid (∃ g, St W.heap.size W wr (a + 1) a n g) ∧ Hid (Bx wr W.heap.size vv)) (fun iw _ => L - (intOf iw).toNat)
        case atStart => exact ⟨0, rfl, by omega, ⟨_, HS3.out⟩, HV3⟩
        case round =>
          obtain ⟨k, rfl, hk, HG, HVk⟩ := hrel
          obtain ⟨g, hS⟩ := HG.out
          clear HG HS3 HV3
          by_cases hlt : k < L ∧ k < 60
          · obtain ⟨hlt, h400⟩ := hlt
            have hlt' : (k : Int) < (L : Int) := by omega
            have h400' : (k : Int) < 60 := by omega
            obtain ⟨lb, off, cap2, hv, hlb, o0, o1, o2, o3, o4, o5, o6⟩ := (HO.out.below (hS.below (Nat.le_refl _))).at hlt
            rw [HVA.out] at hv
            obtain ⟨rfl, rfl⟩ : va0 = some ⟨lb, off, none⟩ ∧ cap = cap2 := by simpa using hv
            have HLB : Hid (lb < W.heap.size) := hlb
            clear hv hlb
            have CP := put_all (Q k).2.1 (Q k).2.2 wr.drew (hS.pt.below (bdrew1 _)) hS.inv HR.out (HRng.out k hlt)
            have HST : Hid (∀ w', Pt w' (a + 1) a n (put n g (Q k).2.1 (Q k).2.2).1 → Keep (fun y => y ≠ a ∧ y ≠ a + 1) wr.drew w' → St W.heap.size W w' (a + 1) a n (put n g (Q k).2.1 (Q k).2.2).1 ∧ Bx w' W.heap.size vv) := fun w' h1 h2 => ⟨(hS.bel (bdrew1 _)).put HR.out (HRng.out k hlt) h1 h2 HAB'.out, (HVk.out.below (bdrew1 _)).kept h2 (by have := HAB.out; show W.heap.size ≠ a ∧ W.heap.size ≠ a + 1; omega)⟩
            have HOx : Hid (∀ w', Below W.heap.size W w' → w'.cell? ⟨lb, off + k * 7 + 1, none⟩ = some (.int .i64 (Q k).2.1.1) ∧ w'.cell? ⟨lb, off + k * 7 + 2, none⟩ = some (.int .i64 (Q k).2.1.2.1) ∧ w'.cell? ⟨lb, off + k * 7 + 3, none⟩ = some (.string (Q k).2.1.2.2)) := by
              intro w' hw'
              have hb0 := hS.below (Nat.le_refl W.heap.size)
              refine ⟨?_, ?_, ?_⟩
              · rw [hw'.cell (by exact HLB.out), ← hb0.cell (by exact HLB.out)]; exact o1
              · rw [hw'.cell (by exact HLB.out), ← hb0.cell (by exact HLB.out)]; exact o2
              · rw [hw'.cell (by exact HLB.out), ← hb0.cell (by exact HLB.out)]; exact o3
            have HRk : Hid (Rng (Q k).2.1) := HRng.out k hlt
            generalize put n g (Q k).2.1 (Q k).2.2 = r at *
            unfold pp vl at CP
            clear hS
            go_wp2_with fail
            refine wp_tail 11 (by kernel_rfl) (by kernel_rfl) ?_
            simp only [List.take_succ_cons, List.take_zero, List.drop_succ_cons, List.drop_zero]
            repeat still_step
            refine wpStill_nil ?_
            go_wp2_with fail
            refine CP.mono ?_; rintro e w3 ⟨rfl, hp, hk2⟩
            obtain ⟨hS3, hV3⟩ := HST.out w3 hp hk2
            have HS3 : Hid _ := hS3
            have HV3 : Hid _ := hV3
            clear CP HST hp hk2 o0 o1 o2 o3 o4 o5 o6 hS3 hV3
            have CD := dump_any w3 HS3.out.pt HR.out.le
            obtain ⟨g3, hg3⟩ : ∃ g3, r.1 = g3 := ⟨_, rfl⟩
            rw [hg3] at CD HS3
            clear hg3
            unfold pp at CD
            go_wp2_with fail
            refine CD.mono ?_; rintro e w4 ⟨D1, c1', rfl, hrow, hfz, hDge, hDlt, hb⟩
            have HS4 : Hid _ := HS3.out.bel hb
            have HV4 : Hid _ := HV3.out.below hb
            have HD4 : Hid (Dm w4 D1 n g3) := ⟨hrow, hDlt⟩
            have HDA : Hid (D1 ≠ a ∧ D1 ≠ a + 1) := by
              have q1 := HS3.out.pt.lta
              have q2 := HS3.out.pt.ltb
              show D1 ≠ a ∧ D1 ≠ a + 1
              omega
            clear CD hrow hfz hDge hDlt hb HS3 HV3
            have CFi := find_all (Q k).2.1 w4 HS4.out.pt HS4.out.inv HR.out HRk.out
            have HFN : Hid (∀ i m, fnd n g3 (Q k).2.1 = (some i, m) → i < n) := fun i m hf => (fnd_lt HS4.out.inv HR.out HRk.out hf).1
            obtain ⟨o1, o2, o3⟩ := HOx.out w4 (HS4.out.below (Nat.le_refl _))
            unfold pp vl at CFi
            go_wp2_with fail
            refine CFi.mono ?_; rintro e w5 ⟨rfl, hb⟩
            have HS5 : Hid _ := HS4.out.bel hb
            have HV5 : Hid _ := HV4.out.below hb
            have HD5 : Hid _ := HD4.out.below hb
            clear CFi hb HS4 HV4 HD4 o1 o2 o3
            have v0 := HV5.out.c0
            have v1 := HV5.out.c1
            have v2 := HV5.out.c2
            have hv5 : W.heap.size < w5.heap.size := HV5.out.lt
            cases hf : fnd n g3 (Q k).2.1 with
            | mk o m =>
              cases o with
              | some i0 =>
                have hi0 := HFN.out i0 m hf
                have HPS : Hid (put n g3 (Q k).2.1 vv = (setX g3 i0 vv, m, 0)) := put_some HVV.out hf
                have hi0' : ¬ ((i0 : Int) < 0) := by omega
                simp only [fi]
                clear hf HFN
                obtain ⟨W6, hW6⟩ : ∃ W6, w5.alloc (vb vv.1 vv.2.1 vv.2.2) = W6 := ⟨_, rfl⟩
                have hb6 : Below w5.heap.size w5 W6 := by rw [← hW6]; exact b1 _ _
                have HX6 : Hid (Bx W6 w5.heap.size vv) := by rw [← hW6]; exact Bx.made w5 vv
                have HS6 : Hid _ := HS5.out.bel hb6
                have HV6 : Hid _ := HV5.out.below hb6
                have HD6 : Hid _ := HD5.out.below hb6
                unfold vb at hW6
                clear hb6 HS5 HV5 HD5
                go_wp2_with fail
                obtain ⟨o1, o2, o3⟩ := HOx.out W6 (HS6.out.below (Nat.le_refl _))
                obtain ⟨B6, hB6⟩ : ∃ B6, w5.heap.size = B6 := ⟨_, rfl⟩
                rw [hB6] at HX6
                simp only [hB6]
                clear hB6 v0 v1 v2 hv5 hW6
                have b0 := HX6.out.c0
                have b1 := HX6.out.c1
                have b2 := HX6.out.c2
                have CP := put_all (Q k).2.1 vv W6.drew (HS6.out.pt.below (bdrew1 _)) HS6.out.inv HR.out HRk.out
                have HST : Hid (∀ w', Pt w' (a + 1) a n (put n g3 (Q k).2.1 vv).1 → Keep (fun y => y ≠ a ∧ y ≠ a + 1) W6.drew w' → St W.heap.size W w' (a + 1) a n (put n g3 (Q k).2.1 vv).1 ∧ Bx w' W.heap.size vv ∧ Dm w' D1 n g3) := fun w' h1 h2 => ⟨(HS6.out.bel (bdrew1 _)).put HR.out HRk.out h1 h2 HAB'.out, (HV6.out.below (bdrew1 _)).kept h2 (by have := HAB.out; show W.heap.size ≠ a ∧ W.heap.size ≠ a + 1; omega), by
                  have h3 := HD6.out.below (bdrew1 W6)
                  exact ⟨h3.row.block (h2.block D1 h3.lt HDA.out), Nat.lt_of_lt_of_le h3.lt h2.size⟩⟩
                rw [HPS.out] at CP HST
                unfold pp vl at CP
                go_region_with (go_at_call 9; refine CP.mono ?_; rintro e w7 ⟨rfl, hp, hk2⟩)
                all_goals
                  obtain ⟨hS7, hV7, hD7⟩ := HST.out w7 hp hk2
                  have HS7 : Hid _ := hS7
                  have HV7 : Hid _ := hV7
                  have HD7 : Hid _ := hD7
                  clear CP HST hp hk2 o1 o2 o3 b0 b1 b2 hS7 hV7 hD7 HX6 HS6 HV6 HD6
                  have CD := dump_any w7 HS7.out.pt HR.out.le
                  unfold pp at CD
                  go_wp2_with fail
                  refine CD.mono ?_; rintro e w8 ⟨D2, c2', rfl, hrow, hfz, hDge, hDlt, hb⟩
                  have HS8 : Hid _ := HS7.out.bel hb
                  have HV8 : Hid _ := HV7.out.below hb
                  have HD1 : Hid _ := HD7.out.below hb
                  have HD2 : Hid (Dm w8 D2 n (setX g3 i0 vv)) := ⟨hrow, hDlt⟩
                  clear CD hrow hfz hDge hDlt hb HS7 HV7 HD7
                  go_wp2_with fail
                  go_loopw [18] (fun jw wr => ∃ j : Nat, jw = .int .i64 (j : Nat) ∧ j ≤ n ∧ Hid (St W.heap.size W wr (a + 1) a n (setX g3 i0 vv)) ∧ Hid (Bx wr W.heap.size vv) ∧ Hid (Dm wr D1 n g3) ∧ Hid (Dm wr D2 n (setX g3 i0 vv))) (fun jw _ => n - (intOf jw).toNat)
                  case atStart => exact ⟨0, rfl, by omega, HS8, HV8, HD1, HD2⟩
                  case round =>
                    obtain ⟨j, rfl, hj, HSj, HVj, HDa, HDb⟩ := hrel
                    clear HS8 HV8 HD1 HD2
                    by_cases hjn : j < n
                    · have hjn' : (j : Int) < (n : Int) := by omega
                      obtain ⟨k0, k1, k2⟩ := HDa.out.k hjn
                      obtain ⟨x0, x1, x2⟩ := HDa.out.x hjn
                      have l6 := HDa.out.l hjn
                      have hlt2 : D2 < wr.heap.size := HDb.out.lt
                      have hltB : W.heap.size < wr.heap.size := HVj.out.lt
                      have g54 := guard54
                      by_cases hji : j = i0
                      · subst hji
                        have v0 := HVj.out.c0
                        have v1 := HVj.out.c1
                        have v2 := HVj.out.c2
                        obtain ⟨q0, q1, q2⟩ := HDb.out.k hjn
                        obtain ⟨q3, q4, q5⟩ := HDb.out.x hjn
                        have q6 := HDb.out.l hjn
                        rw [show (setX g3 j vv).K j = g3.K j from rfl] at q0 q1 q2
                        rw [show (setX g3 j vv).X j = vv from upd_at _ _ _] at q3 q4 q5
                        rw [link_setX] at q6
                        have ne54 := neq54 (g3.K j) vv (g3.K j) vv (link (pl n) g3 j) (link (pl n) g3 j)
                        simp only [decide_true, and_self, Bool.not_true] at ne54
                        unfold vn at ne54
                        have HB : Hid (∀ o, Below wr.heap.size wr (wr.alloc o)) := fun o => b1 wr o
                        generalize link (pl n) g3 j = l6v at *
                        go_wp2_with fail
                        go_quiet (fail)
                        go_wp2_with fail
                        go_round
                        case rel => exact ⟨j + 1, by go_num, by omega, (HSj.out.bel (HB.out _)).bel (bdrew _ _ _), (HVj.out.below (HB.out _)).below (bdrew _ _ _), (HDa.out.below (HB.out _)).below (bdrew _ _ _), (HDb.out.below (HB.out _)).below (bdrew _ _ _)⟩
                        case measure => simp [intOf]; omega
                      · have hji' : ((j : Int) == (i0 : Int)) = false := by simp; omega
                        obtain ⟨q0, q1, q2⟩ := HDb.out.k hjn
                        obtain ⟨q3, q4, q5⟩ := HDb.out.x hjn
                        have q6 := HDb.out.l hjn
                        rw [show (setX g3 i0 vv).K j = g3.K j from rfl] at q0 q1 q2
                        rw [show (setX g3 i0 vv).X j = g3.X j from upd_ne _ _ hji] at q3 q4 q5
                        rw [link_setX] at q6
                        have ne54 := neq54 (g3.K j) (g3.X j) (g3.K j) (g3.X j) (link (pl n) g3 j) (link (pl n) g3 j)
                        simp only [decide_true, and_self, Bool.not_true] at ne54
                        unfold vn at ne54
                        have HB : Hid (∀ o, Below wr.heap.size wr (wr.alloc o)) := fun o => b1 wr o
                        generalize link (pl n) g3 j = l6v at *
                        go_wp2_with fail
                        go_quiet (fail)
                        go_wp2_with fail
                        go_round
                        case rel => exact ⟨j + 1, by go_num, by omega, (HSj.out.bel (HB.out _)).bel (bdrew _ _ _), (HVj.out.below (HB.out _)).below (bdrew _ _ _), (HDa.out.below (HB.out _)).below (bdrew _ _ _), (HDb.out.below (HB.out _)).below (bdrew _ _ _)⟩
                        case measure => simp [intOf]; omega

                    · have hjn' : ¬ (j : Int) < (n : Int) := by omega
                      go_wp2_with fail
                      go_round
                      case rel => exact ⟨k + 1, by go_num, by omega, ⟨_, HSj.out⟩, HVj⟩
                      case measure => simp [intOf]; omega
              | none =>
                obtain ⟨m2, e2, hp2, he2⟩ := put_none hf
                have HPS : Hid (put n g3 (Q k).2.1 nil = (g3, m2, e2)) := hp2
                have HE2 : Hid (e2 = 0 → m2 = m) := he2
                simp only [fi]
                clear hf HFN hp2 he2
                obtain ⟨W6, hW6⟩ : ∃ W6, w5.alloc (vb nil.1 nil.2.1 nil.2.2) = W6 := ⟨_, rfl⟩
                have hb6 : Below w5.heap.size w5 W6 := by rw [← hW6]; exact b1 _ _
                have HX6 : Hid (Bx W6 w5.heap.size nil) := by rw [← hW6]; exact Bx.made w5 nil
                have HS6 : Hid _ := HS5.out.bel hb6
                have HV6 : Hid _ := HV5.out.below hb6
                have HD6 : Hid _ := HD5.out.below hb6
                unfold vb at hW6
                unfold nil at hW6
                simp only at hW6
                have HW6 : Hid _ := hW6
                clear hW6
                clear hb6 HS5 HV5 HD5
                go_wp2_with fail
                have hW6 := HW6.out
                rw [hW6]
                clear HW6
                obtain ⟨o1, o2, o3⟩ := HOx.out W6 (HS6.out.below (Nat.le_refl _))
                obtain ⟨B6, hB6⟩ : ∃ B6, w5.heap.size = B6 := ⟨_, rfl⟩
                rw [hB6] at HX6
                simp only [hB6]
                clear hB6 v0 v1 v2 hv5 hW6
                have b0 := HX6.out.c0
                have b1 := HX6.out.c1
                have b2 := HX6.out.c2
                have CP := put_all (Q k).2.1 nil W6.drew (HS6.out.pt.below (bdrew1 _)) HS6.out.inv HR.out HRk.out
                have HST : Hid (∀ w', Pt w' (a + 1) a n (put n g3 (Q k).2.1 nil).1 → Keep (fun y => y ≠ a ∧ y ≠ a + 1) W6.drew w' → St W.heap.size W w' (a + 1) a n (put n g3 (Q k).2.1 nil).1 ∧ Bx w' W.heap.size vv ∧ Dm w' D1 n g3) := fun w' h1 h2 => ⟨(HS6.out.bel (bdrew1 _)).put HR.out HRk.out h1 h2 HAB'.out, (HV6.out.below (bdrew1 _)).kept h2 (by have := HAB.out; show W.heap.size ≠ a ∧ W.heap.size ≠ a + 1; omega), by
                  have h3 := HD6.out.below (bdrew1 W6)
                  exact ⟨h3.row.block (h2.block D1 h3.lt HDA.out), Nat.lt_of_lt_of_le h3.lt h2.size⟩⟩
                rw [HPS.out] at CP HST
                unfold pp vl at CP
                go_region_with (go_at_call 9; refine CP.mono ?_; rintro e w7 ⟨rfl, hp, hk2⟩)
                all_goals
                  obtain ⟨hS7, hV7, hD7⟩ := HST.out w7 hp hk2
                  have HS7 : Hid _ := hS7
                  have HV7 : Hid _ := hV7
                  have HD7 : Hid _ := hD7
                  clear CP HST hp hk2 o1 o2 o3 b0 b1 b2 hS7 hV7 hD7 HX6 HS6 HV6 HD6
                  have CD := dump_any w7 HS7.out.pt HR.out.le
                  unfold pp at CD
                  go_wp2_with fail
                  refine CD.mono ?_; rintro e w8 ⟨D2, c2', rfl, hrow, hfz, hDge, hDlt, hb⟩
                  have HS8 : Hid _ := HS7.out.bel hb
                  have HV8 : Hid _ := HV7.out.below hb
                  have HD1 : Hid _ := HD7.out.below hb
                  have HD2 : Hid (Dm w8 D2 n g3) := ⟨hrow, hDlt⟩
                  clear CD hrow hfz hDge hDlt hb HS7 HV7 HD7
                  by_cases he : e2 = 0
                  · obtain rfl := HE2.out he
                    subst he
                    go_wp2_with fail
                    go_loopw [18] (fun jw wr => ∃ j : Nat, jw = .int .i64 (j : Nat) ∧ j ≤ n ∧ Hid (St W.heap.size W wr (a + 1) a n g3) ∧ Hid (Bx wr W.heap.size vv) ∧ Hid (Dm wr D1 n g3) ∧ Hid (Dm wr D2 n g3)) (fun jw _ => n - (intOf jw).toNat)
                    case atStart => exact ⟨0, rfl, by omega, HS8, HV8, HD1, HD2⟩
                    case round =>
                      obtain ⟨j, rfl, hj, HSj, HVj, HDa, HDb⟩ := hrel
                      clear HS8 HV8 HD1 HD2
                      by_cases hjn : j < n
                      · have hjn' : (j : Int) < (n : Int) := by omega
                        obtain ⟨k0, k1, k2⟩ := HDa.out.k hjn
                        obtain ⟨x0, x1, x2⟩ := HDa.out.x hjn
                        have l6 := HDa.out.l hjn
                        have hlt2 : D2 < wr.heap.size := HDb.out.lt
                        have hltB : W.heap.size < wr.heap.size := HVj.out.lt
                        have g54 := guard54
                        have hji' : ((j : Int) == (-1 : Int)) = false := by first | (simp; done) | (simp; omega)
                        obtain ⟨q0, q1, q2⟩ := HDb.out.k hjn
                        obtain ⟨q3, q4, q5⟩ := HDb.out.x hjn
                        have q6 := HDb.out.l hjn
                        skip
                        have ne54 := neq54 (g3.K j) (g3.X j) (g3.K j) (g3.X j) (link (pl n) g3 j) (link (pl n) g3 j)
                        simp only [decide_true, and_self, Bool.not_true] at ne54
                        unfold vn at ne54
                        have HB : Hid (∀ o, Below wr.heap.size wr (wr.alloc o)) := fun o => b1 wr o
                        generalize link (pl n) g3 j = l6v at *
                        go_wp2_with fail
                        go_quiet (fail)
                        go_wp2_with fail
                        go_round
                        case rel => exact ⟨j + 1, by go_num, by omega, (HSj.out.bel (HB.out _)).bel (bdrew _ _ _), (HVj.out.below (HB.out _)).below (bdrew _ _ _), (HDa.out.below (HB.out _)).below (bdrew _ _ _), (HDb.out.below (HB.out _)).below (bdrew _ _ _)⟩
                        case measure => simp [intOf]; omega

                      · have hjn' : ¬ (j : Int) < (n : Int) := by omega
                        go_wp2_with fail
                        go_round
                        case rel => exact ⟨k + 1, by go_num, by omega, ⟨_, HSj.out⟩, HVj⟩
                        case measure => simp [intOf]; omega
                  · have he' : (e2 == 0) = false := by simpa using he
                    go_wp2_with fail
                    go_loopw [18] (fun jw wr => ∃ j : Nat, jw = .int .i64 (j : Nat) ∧ j ≤ n ∧ Hid (St W.heap.size W wr (a + 1) a n g3) ∧ Hid (Bx wr W.heap.size vv) ∧ Hid (Dm wr D1 n g3) ∧ Hid (Dm wr D2 n g3)) (fun jw _ => n - (intOf jw).toNat)
                    case atStart => exact ⟨0, rfl, by omega, HS8, HV8, HD1, HD2⟩
                    case round =>
                      obtain ⟨j, rfl, hj, HSj, HVj, HDa, HDb⟩ := hrel
                      clear HS8 HV8 HD1 HD2
                      by_cases hjn : j < n
                      · have hjn' : (j : Int) < (n : Int) := by omega
                        obtain ⟨k0, k1, k2⟩ := HDa.out.k hjn
                        obtain ⟨x0, x1, x2⟩ := HDa.out.x hjn
                        have l6 := HDa.out.l hjn
                        have hlt2 : D2 < wr.heap.size := HDb.out.lt
                        have hltB : W.heap.size < wr.heap.size := HVj.out.lt
                        have g54 := guard54
                        have hji' : ((j : Int) == (-1 : Int)) = false := by first | (simp; done) | (simp; omega)
                        obtain ⟨q0, q1, q2⟩ := HDb.out.k hjn
                        obtain ⟨q3, q4, q5⟩ := HDb.out.x hjn
                        have q6 := HDb.out.l hjn
                        skip
                        have ne54 := neq54 (g3.K j) (g3.X j) (g3.K j) (g3.X j) (link (pl n) g3 j) (link (pl n) g3 j)
                        simp only [decide_true, and_self, Bool.not_true] at ne54
                        unfold vn at ne54
                        have HB : Hid (∀ o, Below wr.heap.size wr (wr.alloc o)) := fun o => b1 wr o
                        generalize link (pl n) g3 j = l6v at *
                        go_wp2_with fail
                        go_quiet (fail)
                        go_wp2_with fail
                        go_round
                        case rel => exact ⟨j + 1, by go_num, by omega, (HSj.out.bel (HB.out _)).bel (bdrew _ _ _), (HVj.out.below (HB.out _)).below (bdrew _ _ _), (HDa.out.below (HB.out _)).below (bdrew _ _ _), (HDb.out.below (HB.out _)).below (bdrew _ _ _)⟩
                        case measure => simp [intOf]; omega

                      · have hjn' : ¬ (j : Int) < (n : Int) := by omega
                        go_wp2_with fail
                        go_round
                        case rel => exact ⟨k + 1, by go_num, by omega, ⟨_, HSj.out⟩, HVj⟩
                        case measure => simp [intOf]; omega
          · have HBl : Hid _ := hS.below (Nat.le_refl _)
            clear hS
            by_cases hlt2 : k < L
            · have hlt' : (k : Int) < (L : Int) := by omega
              have h400' : ¬ (k : Int) < 60 := by omega
              clear hlt
              go_wp2_with fail
              go_ret
              exact ⟨rfl, HBl.out⟩
            · have hlt' : ¬ (k : Int) < (L : Int) := by omega
              clear hlt
              go_wp2_with fail
              go_ret
              exact ⟨rfl, HBl.out⟩
end Go.Proofs.Ytbkgbojfjijalab

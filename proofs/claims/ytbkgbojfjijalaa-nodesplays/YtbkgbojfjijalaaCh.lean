/- The walk of NodesChains. -/
import Derived.Test.YtbkgbojfjijalaaFr
namespace Go.Proofs.Ytbkgbojfjijalaa
open Go.RowKit

/-- A dump: the nodes in a block of their own. -/
structure Dm (w : World) (D n : Nat) (g : G) : Prop where
  row : Rc w D n (nf (pl n) g)
  lt : D < w.heap.size
theorem Dm.below {w w' : World} {D n : Nat} {g : G} (h : Dm w D n g) (k : Below w.heap.size w w') : Dm w' D n g := ⟨h.row.block (k.block D h.lt), Nat.lt_of_lt_of_le h.lt k.size⟩
theorem Dm.k {w : World} {D n : Nat} {g : G} (h : Dm w D n g) {i : Nat} (hi : i < n) : w.cell? ⟨D, i * 7, none⟩ = some (.int .i64 (g.K i).1) ∧ w.cell? ⟨D, i * 7 + 1, none⟩ = some (.int .i64 (g.K i).2.1) ∧ w.cell? ⟨D, i * 7 + 2, none⟩ = some (.string (g.K i).2.2) :=
  ⟨h.row.c i hi 0 (by omega), h.row.c i hi 1 (by omega), h.row.c i hi 2 (by omega)⟩
theorem Dm.x {w : World} {D n : Nat} {g : G} (h : Dm w D n g) {i : Nat} (hi : i < n) : w.cell? ⟨D, i * 7 + 3, none⟩ = some (.int .i64 (g.X i).1) ∧ w.cell? ⟨D, i * 7 + 4, none⟩ = some (.int .i64 (g.X i).2.1) ∧ w.cell? ⟨D, i * 7 + 5, none⟩ = some (.string (g.X i).2.2) :=
  ⟨h.row.c i hi 3 (by omega), h.row.c i hi 4 (by omega), h.row.c i hi 5 (by omega)⟩
theorem Dm.l {w : World} {D n : Nat} {g : G} (h : Dm w D n g) {i : Nat} (hi : i < n) : w.cell? ⟨D, i * 7 + 6, none⟩ = some (.int .i64 (link (pl n) g i)) := h.row.c i hi 6 (by omega)

set_option maxRecDepth 100000 in
set_option maxHeartbeats 4000000 in
theorem chains_walk (z : Int) (L : Nat) (Q : Nat → Int × V × V) (v : Value) (W : World) (hO : Ops W.heap.size W v L Q) (hL : L * 72 ≤ 140737488355328) :
    Calls Try.prog 4 #[.int .i64 z, v] W fun e w' => e = .returned (.bool true) ∧ Below W.heap.size W w' := by
  have CF := fixed_any W
  by_cases hbad : rt z = false ∨ 4096 < z
  · have CB := fun w => begin_bad z w hbad
    have CR := right_any z
    clear hO
    go_enter Try.func4, Try.ntmps4
    go_wp2_with fail
    refine CF.mono ?_; rintro e w0 ⟨rfl, hb⟩
    have HB : Hid _ := hb
    clear hb CF
    go_wp2_with fail
    refine (CB _).mono ?_; rintro e w0 ⟨rfl, rfl⟩
    clear CB
    cases hr : rt z
    · rw [hr] at CR
      clear hbad hr
      go_wp2_with fail
      refine (CR _).mono ?_; rintro e w0 ⟨rfl, rfl⟩
      go_wp2_with fail
      go_ret
      exact ⟨rfl, HB.out⟩
    · have h1 : 4096 < z := by rw [hr] at hbad; simpa using hbad
      rw [hr] at CR
      clear hbad hr
      go_wp2_with fail
      refine (CR _).mono ?_; rintro e w0 ⟨rfl, rfl⟩
      go_wp2_with fail
      go_ret
      exact ⟨rfl, HB.out⟩
  · simp only [not_or, Bool.not_eq_false] at hbad
    obtain ⟨n, rfl, hR⟩ := Rt.of hbad.1
    have hn : n ≤ 4096 := by have := hbad.2; omega
    clear hbad
    have CB := fun w => begin_any n w hR hn
    by_cases h512 : 512 < n
    · clear hO
      have h512' : 512 < (n : Int) := by omega
      unfold pp at CB
      go_enter Try.func4, Try.ntmps4
      go_wp2_with fail
      refine CF.mono ?_; rintro e w0 ⟨rfl, hb⟩
      have HB : Hid _ := hb
      clear hb CF
      go_wp2_with fail
      refine (CB _).mono ?_; rintro e w2 ⟨S, ka, va, ca, w1, rfl, h1, h2⟩
      have HS : Hid _ := (St.start HB.out h1 h2).keep
      clear CB h1 h2
      go_wp2_with fail
      go_ret
      exact ⟨rfl, HS.out.below (Nat.le_refl _) (fun _ h => h)⟩
    · have h512' : ¬ 512 < (n : Int) := by omega
      have HO : Hid (Ops W.heap.size W v L Q) := hO
      obtain ⟨va0, cap, hva, hrng, _⟩ := id hO
      have HVA : Hid (v = .slice va0 L cap) := hva
      rw [hva]
      clear hva
      have HRng : Hid _ := hrng
      have HR : Hid (Rt n) := hR
      clear hO hrng hR
      unfold pp at CB
      go_enter Try.func4, Try.ntmps4
      go_wp2_with fail
      refine CF.mono ?_; rintro e w0 ⟨rfl, hb⟩
      have HB : Hid _ := hb
      have HBs : Hid (W.heap.size ≤ w0.heap.size) := hb.size
      clear hb CF
      go_wp2_with fail
      refine (CB _).mono ?_; rintro e w2 ⟨S, ka, va, ca, w1, rfl, h1, h2⟩
      have HS : Hid _ := St.start HB.out h1 h2
      clear CB h1 h2
      obtain ⟨a, ha⟩ : ∃ a, w0.heap.size = a := ⟨_, rfl⟩
      rw [ha] at HS HBs ⊢
      have HAB : Hid (W.heap.size ≤ a ∧ W.heap.size ≤ a + 1) := ⟨HBs.out, by have := HBs.out; omega⟩
      clear ha HBs HB
      go_wp2_with fail
      go_loopw [8] (fun iw wr => ∃ (k : Nat), iw = .int .i64 (k : Nat) ∧ k ≤ L ∧ Hid (∃ g, St W.heap.size W wr (a + 1) a n g)) (fun iw _ => L - (intOf iw).toNat)
      case atStart => exact ⟨0, rfl, by omega, ⟨_, HS.out⟩⟩
      case round =>
        obtain ⟨k, rfl, hk, HG⟩ := hrel
        obtain ⟨g, hS⟩ := HG.out
        clear HG HS
        by_cases hlt : k < L ∧ k < 400
        · obtain ⟨hlt, h400⟩ := hlt
          have hlt' : (k : Int) < (L : Int) := by omega
          have h400' : (k : Int) < 400 := by omega
          obtain ⟨lb, off, cap2, hv, hlb, o0, o1, o2, o3, o4, o5, o6⟩ := (HO.out.below (hS.below (Nat.le_refl _))).at hlt
          rw [HVA.out] at hv
          obtain ⟨rfl, rfl⟩ : va0 = some ⟨lb, off, none⟩ ∧ cap = cap2 := by simpa using hv
          clear hv
          by_cases hq : (Q k).1 = 1
          · rw [hq] at o0
            have CP := put_all (Q k).2.1 (Q k).2.2 wr.drew (hS.pt.below (bdrew1 _)) hS.inv HR.out (HRng.out k hlt)
            have HST : Hid (∀ w', Pt w' (a + 1) a n (put n g (Q k).2.1 (Q k).2.2).1 → Keep (fun x => x ≠ a ∧ x ≠ a + 1) wr.drew w' → St W.heap.size W w' (a + 1) a n (put n g (Q k).2.1 (Q k).2.2).1) := fun w' h1 h2 => (hS.bel (bdrew1 _)).put HR.out (HRng.out k hlt) h1 h2 HAB.out
            generalize put n g (Q k).2.1 (Q k).2.2 = r at *
            unfold pp vl at CP
            clear hS hq
            go_wp2_with fail
            refine wp_tail 11 (by kernel_rfl) (by kernel_rfl) ?_
            simp only [List.take_succ_cons, List.take_zero, List.drop_succ_cons, List.drop_zero]
            repeat still_step
            refine wpStill_nil ?_
            go_wp2_with fail
            refine CP.mono ?_; rintro e w3 ⟨rfl, hp, hk2⟩
            have HS3 : Hid _ := HST.out w3 hp hk2
            clear CP HST hp hk2
            go_wp2_with fail
            go_round
            case rel => exact ⟨k + 1, by go_num, by omega, ⟨_, HS3.out⟩⟩
            case measure => simp [intOf]; omega
          · have hq' : ((Q k).1 == 1) = false := by simpa using hq
            have HS3 : Hid _ := hS
            clear hS hq
            go_wp2_with fail
            go_round
            case rel => exact ⟨k + 1, by go_num, by omega, ⟨_, HS3.out⟩⟩
            case measure => simp [intOf]; omega
        · have HS3 : Hid _ := hS
          have CD := dump_any wr hS.pt HR.out.le
          unfold pp at CD
          clear hS
          have HCON : Hid (¬ (k < L ∧ k < 400)) := hlt
          clear hlt
          have g54 := guard54
          have HMN : Hid _ := fun i (hi : i < n) (hne : g.K i ≠ nil) w => main_any (g.K i).1 (g.K i).2.1 (g.K i).2.2 n w ((HS3.out.inv.key i hi).resolve_left hne).2.2.1 ((HS3.out.inv.key i hi).resolve_left hne).2.2.2
          by_cases h1 : k < L
          · have hA : (k : Int) < (L : Int) := by omega
            have hB : ¬ (k : Int) < 400 := by have := HCON.out; omega
            go_wp2_with fail
            refine CD.mono ?_; rintro e w4 ⟨D, c', rfl, hrow, hfz, hDge, hDlt, hb⟩
            have HS4 : Hid _ := HS3.out.bel hb
            have HD4 : Hid (Dm w4 D n g) := ⟨hrow, hDlt⟩
            clear CD hrow hfz hDge hDlt hb HCON
            go_wp2_with fail
            go_loopw [10] (fun jw wr => ∃ i : Nat, jw = .int .i64 (i : Nat) ∧ i ≤ n ∧ Hid (St W.heap.size W wr (a + 1) a n g) ∧ Hid (Dm wr D n g)) (fun jw _ => n - (intOf jw).toNat)
            case atStart => exact ⟨0, rfl, by omega, HS4, HD4⟩
            case round =>
              obtain ⟨i, rfl, hi, HSi, HDi⟩ := hrel
              clear HS4 HD4 HS3
              by_cases hin : i < n
              · have hin' : (i : Int) < (n : Int) := by omega
                obtain ⟨k0, k1, k2⟩ := HDi.out.k hin
                obtain ⟨x0, x1, x2⟩ := HDi.out.x hin
                have l6 := HDi.out.l hin
                by_cases hE : g.K i = nil
                · rw [hE] at k0 k1 k2
                  rw [HSi.out.inv.val i hin hE] at x0 x1 x2
                  rw [link_no hE] at l6
                  have ne54 := neq54 nil nil nil nil 0 0
                  simp only [decide_true, and_self] at ne54
                  unfold vn at ne54
                  unfold nil at k0 k1 k2 x0 x1 x2 ne54
                  simp only at k0 k1 k2 x0 x1 x2 ne54
                  clear hE
                  go_wp2_with fail
                  go_round
                  case rel => exact ⟨i + 1, by go_num, by omega, HSi, HDi⟩
                  case measure => simp [intOf]; omega
                · have hkd : ((g.K i).1 == 0) = false := by
                    have : ¬ (g.K i).1 = 0 := fun e => hE ((HSi.out.inv.kind hin).1 e)
                    simpa using this
                  have hz : pw n = true := HR.out.resolve_left (by omega)
                  have hpl : ∀ k, KOK k → pl n k < n := fun k _ => pl_lt hz k
                  have hkok : KOK (g.K i) := (HSi.out.inv.key i hin).resolve_left hE
                  have CM := HMN.out i hin hE
                  rw [(mnE_ok hkok hz).1, (mnE_ok hkok hz).2, ← pl_cast hz] at CM
                  obtain ⟨p, q, hC, hip, hfind⟩ := HSi.out.inv.find_held hpl hin hE
                  have CFi := fun w (P : Pt w (a + 1) a n g) => find_any (g.K i) w P HSi.out.inv hz hkok
                  rw [hfind] at CFi
                  have hplen : p.length + 1 ≤ n := by
                    have h0 := nodup_len (HSi.out.inv.nd _ (hpl _ hkok)) (fun x hx => (HSi.out.inv.cok _ (hpl _ hkok) x hx).1)
                    rw [hC] at h0
                    simp at h0
                    omega
                  have hm := hpl _ hkok
                  obtain ⟨m, hmm⟩ : ∃ m, pl n (g.K i) = m := ⟨_, rfl⟩
                  rw [hmm] at CM hC hm
                  have HC : Hid (g.C m = p ++ i :: q) := hC
                  have HMm : Hid (∀ j, j ∈ g.C m → j < n ∧ g.K j ≠ nil ∧ pl n (g.K j) = m) := HSi.out.inv.cok m hm
                  have HKK : Hid (∀ j, j ∈ g.C m → KOK (g.K j)) := fun j hj => (HSi.out.inv.key j (HMm.out j hj).1).resolve_left (HMm.out j hj).2.1
                  have HND : Hid ((p ++ i :: q).Nodup) := by rw [← hC]; exact HSi.out.inv.nd m hm
                  have HHD : Hid (∃ t, p ++ [i] = m :: t) := by
                    rcases HSi.out.inv.hd m hm with h0 | ⟨t, h0⟩
                    · rw [hC] at h0; simp at h0
                    · rw [hC] at h0
                      cases p with
                      | nil => simp at h0; exact ⟨[], by rw [h0.1]; rfl⟩
                      | cons c p => simp at h0; exact ⟨p ++ [i], by rw [h0.1]; rfl⟩
                  have HLK : Hid (∀ x y l, (∃ p1, p ++ [i] = p1 ++ x :: y :: l) → link (pl n) g x = (y : Int) - x ∧ x ≠ y ∧ x ≠ i ∧ x ∈ g.C m ∧ y ∈ g.C m) := by
                    rintro x y l ⟨p1, h0⟩
                    have h1 : g.C m = p1 ++ x :: y :: (l ++ q) := by rw [hC, show p ++ i :: q = (p ++ [i]) ++ q by simp, h0]; simp
                    have hl : Lk n (pl n) g (x :: y :: (l ++ q)) := .inl ⟨m, p1, hm, h1⟩
                    refine ⟨HSi.out.inv.lk_link hl, HSi.out.inv.lk_ne hl, ?_, by rw [h1]; simp, by rw [h1]; simp⟩
                    intro e
                    subst e
                    have h2 := split_uniq (m := x) (x := p) (x' := p1) (y := []) (y' := y :: l) h0 hip (fun hx => by
                      have h3 := HSi.out.inv.nd m hm
                      rw [h1, List.nodup_append] at h3
                      exact h3.2.2 x hx x (by simp) rfl)
                    cases h2.2
                  unfold vl at CM
                  unfold pp vl at CFi
                  clear hfind hmm hC hkok hz hpl hip HMN
                  go_wp2_with fail
                  refine (CM _).mono ?_; rintro e w5 ⟨rfl, rfl⟩
                  clear CM
                  obtain ⟨w5, hw5⟩ : ∃ w5, (wr.alloc (vb (g.K i).1 (g.K i).2.1 (g.K i).2.2)).alloc (vb (g.K i).1 (g.K i).2.1 (g.K i).2.2) = w5 := ⟨_, rfl⟩
                  have hb5 : Below wr.heap.size wr w5 := by rw [← hw5]; exact b2 _ _ _
                  rw [hw5]
                  have HS5 : Hid _ := HSi.out.bel hb5
                  have HD5 : Hid _ := HDi.out.below hb5
                  clear hw5 hb5 k0 k1 k2 x0 x1 x2 l6 HSi HDi
                  obtain ⟨k0, k1, k2⟩ := HD5.out.k hin
                  have CF5 := CFi _ HS5.out.pt
                  clear CFi
                  simp only [fi] at CF5
                  go_wp2_with fail
                  refine CF5.mono ?_; rintro e w6 ⟨rfl, hb⟩
                  have HS6 : Hid _ := HS5.out.bel hb
                  have HD6 : Hid _ := HD5.out.below hb
                  clear CF5 hb HS5 HD5 k0 k1 k2
                  have hpn : ((p.length + 1 : Nat) : Int) ≤ (n : Int) := by omega
                  have hp1 : ¬ ((p.length + 1 : Nat) : Int) < 1 := by omega
                  have hp2 : ¬ (n : Int) < ((p.length + 1 : Nat) : Int) := by omega
                  go_wp2_with fail
                  go_loopw [15, 16] (fun ow kw wr => ∃ (o t : Nat) (p1 rest : List Nat), ow = .int .i64 (o : Nat) ∧ kw = .int .i64 (t + 1 : Nat) ∧ Hid (p ++ [i] = p1 ++ o :: rest ∧ p1.length = t) ∧ Hid (St W.heap.size W wr (a + 1) a n g) ∧ Hid (Dm wr D n g)) (fun _ kw _ => n - (intOf kw).toNat)
                  case atStart =>
                    obtain ⟨t, ht⟩ := HHD.out
                    exact ⟨m, 0, [], t, rfl, rfl, ⟨ht, rfl⟩, HS6, HD6⟩
                  case round =>
                    obtain ⟨o, t, p1, rest, rfl, rfl, HP, HSo, HDo⟩ := hrel
                    clear HS6 HD6
                    cases rest with
                    | nil =>
                      have h0 := congrArg List.length HP.out.1
                      have h1 := congrArg List.getLast? HP.out.1
                      simp at h0 h1
                      have h2 := HP.out.2
                      have htp : t = p.length := by omega
                      subst htp h1
                      clear h0 h2
                      go_wp2_with fail
                      go_round
                      case rel => exact ⟨i + 1, by go_num, by omega, HSo, HDo⟩
                      case measure => simp [intOf]; omega
                    | cons d rest =>
                      obtain ⟨hl, hod, hoi, hom, hdm⟩ := HLK.out o d rest ⟨p1, HP.out.1⟩
                      have HLL : Hid (link (pl n) g o = (d : Int) - o) := hl
                      have htp : t < p.length := by
                        have h0 := congrArg List.length HP.out.1
                        simp at h0
                        have h2 := HP.out.2
                        omega
                      have htp' : ((t : Int) + 1) < ((p.length : Int) + 1) := by omega
                      have hon := (HMm.out o hom).1
                      have hdn := (HMm.out d hdm).1
                      have hon' : (o : Int) < (n : Int) := by omega
                      have hdn' : (d : Int) < (n : Int) := by omega
                      have hz : pw n = true := HR.out.resolve_left (by omega)
                      have CM := fun w => main_any (g.K o).1 (g.K o).2.1 (g.K o).2.2 n w (HKK.out o hom).2.2.1 (HKK.out o hom).2.2.2
                      rw [(mnE_ok (HKK.out o hom) hz).1, (mnE_ok (HKK.out o hom) hz).2, ← pl_cast hz, (HMm.out o hom).2.2] at CM
                      obtain ⟨k0, k1, k2⟩ := HDo.out.k hon
                      have l6 := HDo.out.l hon
                      rw [hl] at l6
                      have hne0 : ((d : Int) - o == 0) = false := by simp; omega
                      have hoi' : ((o : Int) == (i : Int)) = false := by simp; omega
                      have HP2 : Hid (p ++ [i] = (p1 ++ [o]) ++ d :: rest ∧ (p1 ++ [o]).length = t + 1) := ⟨by rw [HP.out.1]; simp, by simp [HP.out.2]⟩
                      unfold vl at CM
                      clear hl hod hoi hom hdm hz HP
                      go_wp2_with fail
                      refine (CM _).mono ?_; rintro e w7 ⟨rfl, rfl⟩
                      clear CM
                      obtain ⟨w7, hw7⟩ : ∃ w7, (wr.alloc (vb (g.K o).1 (g.K o).2.1 (g.K o).2.2)).alloc (vb (g.K o).1 (g.K o).2.1 (g.K o).2.2) = w7 := ⟨_, rfl⟩
                      have hb7 : Below wr.heap.size wr w7 := by rw [← hw7]; exact b2 _ _ _
                      rw [hw7]
                      have HS7 : Hid _ := HSo.out.bel hb7
                      have HD7 : Hid _ := HDo.out.below hb7
                      clear hw7 hb7 k0 k1 k2 HSo HDo
                      have l7 := HD7.out.l hon
                      have l8 : w7.cell? ⟨D, o * 7 + 6, none⟩ = some (.int .i64 ((d : Int) - o)) := by rw [l7, HLL.out]
                      clear l7
                      go_wp2_with fail
                      go_round
                      case rel => exact ⟨d, t + 1, p1 ++ [o], rest, by go_num, by go_num, HP2, HS7, HD7⟩
                      case measure => simp [intOf]; omega
              · have hin' : ¬ (i : Int) < (n : Int) := by omega
                have HBl : Hid _ := HSi.out.below (Nat.le_refl _)
                go_wp2_with fail
                go_ret
                exact ⟨rfl, HBl.out⟩
          · have hA : ¬ (k : Int) < (L : Int) := by omega
            go_wp2_with fail
            refine CD.mono ?_; rintro e w4 ⟨D, c', rfl, hrow, hfz, hDge, hDlt, hb⟩
            have HS4 : Hid _ := HS3.out.bel hb
            have HD4 : Hid (Dm w4 D n g) := ⟨hrow, hDlt⟩
            clear CD hrow hfz hDge hDlt hb HCON
            go_wp2_with fail
            go_loopw [10] (fun jw wr => ∃ i : Nat, jw = .int .i64 (i : Nat) ∧ i ≤ n ∧ Hid (St W.heap.size W wr (a + 1) a n g) ∧ Hid (Dm wr D n g)) (fun jw _ => n - (intOf jw).toNat)
            case atStart => exact ⟨0, rfl, by omega, HS4, HD4⟩
            case round =>
              obtain ⟨i, rfl, hi, HSi, HDi⟩ := hrel
              clear HS4 HD4 HS3
              by_cases hin : i < n
              · have hin' : (i : Int) < (n : Int) := by omega
                obtain ⟨k0, k1, k2⟩ := HDi.out.k hin
                obtain ⟨x0, x1, x2⟩ := HDi.out.x hin
                have l6 := HDi.out.l hin
                by_cases hE : g.K i = nil
                · rw [hE] at k0 k1 k2
                  rw [HSi.out.inv.val i hin hE] at x0 x1 x2
                  rw [link_no hE] at l6
                  have ne54 := neq54 nil nil nil nil 0 0
                  simp only [decide_true, and_self] at ne54
                  unfold vn at ne54
                  unfold nil at k0 k1 k2 x0 x1 x2 ne54
                  simp only at k0 k1 k2 x0 x1 x2 ne54
                  clear hE
                  go_wp2_with fail
                  go_round
                  case rel => exact ⟨i + 1, by go_num, by omega, HSi, HDi⟩
                  case measure => simp [intOf]; omega
                · have hkd : ((g.K i).1 == 0) = false := by
                    have : ¬ (g.K i).1 = 0 := fun e => hE ((HSi.out.inv.kind hin).1 e)
                    simpa using this
                  have hz : pw n = true := HR.out.resolve_left (by omega)
                  have hpl : ∀ k, KOK k → pl n k < n := fun k _ => pl_lt hz k
                  have hkok : KOK (g.K i) := (HSi.out.inv.key i hin).resolve_left hE
                  have CM := HMN.out i hin hE
                  rw [(mnE_ok hkok hz).1, (mnE_ok hkok hz).2, ← pl_cast hz] at CM
                  obtain ⟨p, q, hC, hip, hfind⟩ := HSi.out.inv.find_held hpl hin hE
                  have CFi := fun w (P : Pt w (a + 1) a n g) => find_any (g.K i) w P HSi.out.inv hz hkok
                  rw [hfind] at CFi
                  have hplen : p.length + 1 ≤ n := by
                    have h0 := nodup_len (HSi.out.inv.nd _ (hpl _ hkok)) (fun x hx => (HSi.out.inv.cok _ (hpl _ hkok) x hx).1)
                    rw [hC] at h0
                    simp at h0
                    omega
                  have hm := hpl _ hkok
                  obtain ⟨m, hmm⟩ : ∃ m, pl n (g.K i) = m := ⟨_, rfl⟩
                  rw [hmm] at CM hC hm
                  have HC : Hid (g.C m = p ++ i :: q) := hC
                  have HMm : Hid (∀ j, j ∈ g.C m → j < n ∧ g.K j ≠ nil ∧ pl n (g.K j) = m) := HSi.out.inv.cok m hm
                  have HKK : Hid (∀ j, j ∈ g.C m → KOK (g.K j)) := fun j hj => (HSi.out.inv.key j (HMm.out j hj).1).resolve_left (HMm.out j hj).2.1
                  have HND : Hid ((p ++ i :: q).Nodup) := by rw [← hC]; exact HSi.out.inv.nd m hm
                  have HHD : Hid (∃ t, p ++ [i] = m :: t) := by
                    rcases HSi.out.inv.hd m hm with h0 | ⟨t, h0⟩
                    · rw [hC] at h0; simp at h0
                    · rw [hC] at h0
                      cases p with
                      | nil => simp at h0; exact ⟨[], by rw [h0.1]; rfl⟩
                      | cons c p => simp at h0; exact ⟨p ++ [i], by rw [h0.1]; rfl⟩
                  have HLK : Hid (∀ x y l, (∃ p1, p ++ [i] = p1 ++ x :: y :: l) → link (pl n) g x = (y : Int) - x ∧ x ≠ y ∧ x ≠ i ∧ x ∈ g.C m ∧ y ∈ g.C m) := by
                    rintro x y l ⟨p1, h0⟩
                    have h1 : g.C m = p1 ++ x :: y :: (l ++ q) := by rw [hC, show p ++ i :: q = (p ++ [i]) ++ q by simp, h0]; simp
                    have hl : Lk n (pl n) g (x :: y :: (l ++ q)) := .inl ⟨m, p1, hm, h1⟩
                    refine ⟨HSi.out.inv.lk_link hl, HSi.out.inv.lk_ne hl, ?_, by rw [h1]; simp, by rw [h1]; simp⟩
                    intro e
                    subst e
                    have h2 := split_uniq (m := x) (x := p) (x' := p1) (y := []) (y' := y :: l) h0 hip (fun hx => by
                      have h3 := HSi.out.inv.nd m hm
                      rw [h1, List.nodup_append] at h3
                      exact h3.2.2 x hx x (by simp) rfl)
                    cases h2.2
                  unfold vl at CM
                  unfold pp vl at CFi
                  clear hfind hmm hC hkok hz hpl hip HMN
                  go_wp2_with fail
                  refine (CM _).mono ?_; rintro e w5 ⟨rfl, rfl⟩
                  clear CM
                  obtain ⟨w5, hw5⟩ : ∃ w5, (wr.alloc (vb (g.K i).1 (g.K i).2.1 (g.K i).2.2)).alloc (vb (g.K i).1 (g.K i).2.1 (g.K i).2.2) = w5 := ⟨_, rfl⟩
                  have hb5 : Below wr.heap.size wr w5 := by rw [← hw5]; exact b2 _ _ _
                  rw [hw5]
                  have HS5 : Hid _ := HSi.out.bel hb5
                  have HD5 : Hid _ := HDi.out.below hb5
                  clear hw5 hb5 k0 k1 k2 x0 x1 x2 l6 HSi HDi
                  obtain ⟨k0, k1, k2⟩ := HD5.out.k hin
                  have CF5 := CFi _ HS5.out.pt
                  clear CFi
                  simp only [fi] at CF5
                  go_wp2_with fail
                  refine CF5.mono ?_; rintro e w6 ⟨rfl, hb⟩
                  have HS6 : Hid _ := HS5.out.bel hb
                  have HD6 : Hid _ := HD5.out.below hb
                  clear CF5 hb HS5 HD5 k0 k1 k2
                  have hpn : ((p.length + 1 : Nat) : Int) ≤ (n : Int) := by omega
                  have hp1 : ¬ ((p.length + 1 : Nat) : Int) < 1 := by omega
                  have hp2 : ¬ (n : Int) < ((p.length + 1 : Nat) : Int) := by omega
                  go_wp2_with fail
                  go_loopw [15, 16] (fun ow kw wr => ∃ (o t : Nat) (p1 rest : List Nat), ow = .int .i64 (o : Nat) ∧ kw = .int .i64 (t + 1 : Nat) ∧ Hid (p ++ [i] = p1 ++ o :: rest ∧ p1.length = t) ∧ Hid (St W.heap.size W wr (a + 1) a n g) ∧ Hid (Dm wr D n g)) (fun _ kw _ => n - (intOf kw).toNat)
                  case atStart =>
                    obtain ⟨t, ht⟩ := HHD.out
                    exact ⟨m, 0, [], t, rfl, rfl, ⟨ht, rfl⟩, HS6, HD6⟩
                  case round =>
                    obtain ⟨o, t, p1, rest, rfl, rfl, HP, HSo, HDo⟩ := hrel
                    clear HS6 HD6
                    cases rest with
                    | nil =>
                      have h0 := congrArg List.length HP.out.1
                      have h1 := congrArg List.getLast? HP.out.1
                      simp at h0 h1
                      have h2 := HP.out.2
                      have htp : t = p.length := by omega
                      subst htp h1
                      clear h0 h2
                      go_wp2_with fail
                      go_round
                      case rel => exact ⟨i + 1, by go_num, by omega, HSo, HDo⟩
                      case measure => simp [intOf]; omega
                    | cons d rest =>
                      obtain ⟨hl, hod, hoi, hom, hdm⟩ := HLK.out o d rest ⟨p1, HP.out.1⟩
                      have HLL : Hid (link (pl n) g o = (d : Int) - o) := hl
                      have htp : t < p.length := by
                        have h0 := congrArg List.length HP.out.1
                        simp at h0
                        have h2 := HP.out.2
                        omega
                      have htp' : ((t : Int) + 1) < ((p.length : Int) + 1) := by omega
                      have hon := (HMm.out o hom).1
                      have hdn := (HMm.out d hdm).1
                      have hon' : (o : Int) < (n : Int) := by omega
                      have hdn' : (d : Int) < (n : Int) := by omega
                      have hz : pw n = true := HR.out.resolve_left (by omega)
                      have CM := fun w => main_any (g.K o).1 (g.K o).2.1 (g.K o).2.2 n w (HKK.out o hom).2.2.1 (HKK.out o hom).2.2.2
                      rw [(mnE_ok (HKK.out o hom) hz).1, (mnE_ok (HKK.out o hom) hz).2, ← pl_cast hz, (HMm.out o hom).2.2] at CM
                      obtain ⟨k0, k1, k2⟩ := HDo.out.k hon
                      have l6 := HDo.out.l hon
                      rw [hl] at l6
                      have hne0 : ((d : Int) - o == 0) = false := by simp; omega
                      have hoi' : ((o : Int) == (i : Int)) = false := by simp; omega
                      have HP2 : Hid (p ++ [i] = (p1 ++ [o]) ++ d :: rest ∧ (p1 ++ [o]).length = t + 1) := ⟨by rw [HP.out.1]; simp, by simp [HP.out.2]⟩
                      unfold vl at CM
                      clear hl hod hoi hom hdm hz HP
                      go_wp2_with fail
                      refine (CM _).mono ?_; rintro e w7 ⟨rfl, rfl⟩
                      clear CM
                      obtain ⟨w7, hw7⟩ : ∃ w7, (wr.alloc (vb (g.K o).1 (g.K o).2.1 (g.K o).2.2)).alloc (vb (g.K o).1 (g.K o).2.1 (g.K o).2.2) = w7 := ⟨_, rfl⟩
                      have hb7 : Below wr.heap.size wr w7 := by rw [← hw7]; exact b2 _ _ _
                      rw [hw7]
                      have HS7 : Hid _ := HSo.out.bel hb7
                      have HD7 : Hid _ := HDo.out.below hb7
                      clear hw7 hb7 k0 k1 k2 HSo HDo
                      have l7 := HD7.out.l hon
                      have l8 : w7.cell? ⟨D, o * 7 + 6, none⟩ = some (.int .i64 ((d : Int) - o)) := by rw [l7, HLL.out]
                      clear l7
                      go_wp2_with fail
                      go_round
                      case rel => exact ⟨d, t + 1, p1 ++ [o], rest, by go_num, by go_num, HP2, HS7, HD7⟩
                      case measure => simp [intOf]; omega
              · have hin' : ¬ (i : Int) < (n : Int) := by omega
                have HBl : Hid _ := HSi.out.below (Nat.le_refl _)
                go_wp2_with fail
                go_ret
                exact ⟨rfl, HBl.out⟩
end Go.Proofs.Ytbkgbojfjijalaa

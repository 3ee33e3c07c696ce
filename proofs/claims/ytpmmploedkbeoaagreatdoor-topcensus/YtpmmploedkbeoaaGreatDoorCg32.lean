/- The walk of TopCensus. -/
import Derived.Test.YtpmmploedkbeoaaGreatDoorCg26
namespace Go.Proofs.YtpmmploedkbeoaaGreatDoor
open Go.RowKit

/-- Five replies of a list, as a region reads them. -/
def S5 (R i1 i2 i3 i4 i5 : Nat) (v1 v2 v3 v4 v5 : Value) (e1 e2 e3 e4 e5 : Int) (W : World) : Prop := Ro W R i1 v1 e1 ∧ Ro W R i2 v2 e2 ∧ Ro W R i3 v3 e3 ∧ Ro W R i4 v4 e4 ∧ Ro W R i5 v5 e5
/-- What region 13 of TopCensus reads. -/
def S13 (N4 N5 nb nf : Nat) (x y : Value) (A Z : Int) (W : World) : Prop := W.cell? ⟨N4, 0, none⟩ = some x ∧ W.cell? ⟨nb, nf + 1, none⟩ = some (.int .i64 A) ∧ W.cell? ⟨nb, nf + 4, none⟩ = some (.int .i64 Z) ∧ W.cell? ⟨N5, 0, none⟩ = some y
theorem bdN {w0 w : World} (h : Below w0.heap.size w0 w) (n : Nat) : Below w0.heap.size w0 (w.drewN n) := bthen h h.size (bdrN _ _)
theorem vin_tab (W : World) : Vin (W.alloc (.cells #[.int .i64 4, .int .i64 1, .string ⟨#[]⟩] 37)) (some ⟨W.heap.size, 0, none⟩) 1 (fun i => [tab1].getD i nil) := by
  obtain ⟨a, c, q1, q2, _⟩ := (rq1 W tab1).ex
  cases q1
  exact q2
set_option maxRecDepth 20000 in
set_option maxHeartbeats 8000000 in
theorem census_law {w : World} {ad : Option Addr} {L cp : Nat} {P : Nat → V × V} (hP : Pin w ad L P) (hL : L ≤ cp) (hr : ∀ q, Rng (P q).1) :
    Calls Tryz.prog 3 #[.slice ad L cp] w fun e w' => e = .returned (.bool true) ∧ Below w.heap.size w w' := by
  obtain ⟨n, hn⟩ : ∃ n, min L 120 = n := ⟨_, rfl⟩
  have hn0 : n ≤ 120 ∧ n ≤ L := by omega
  have C7 := script_any (cp := cp) (hP.less hn0.2) hn0.1
  have HP : Hid (Pin w ad n P) := hP.less hn0.2
  have HR : Hid (∀ q, Rng (P q).1) := hr
  have hmin : min (L : Int) 120 = (n : Int) := by omega
  clear hP hr hn
  go_enter Tryz.func3, Tryz.ntmps3
  go_wp2_with fail
  refine C7.mono ?_; rintro e w1 ⟨⟨l, a, c, B, bt, rfl, si⟩⟩
  have CP := play_script si hn0.1 HR.out
  have HB1 : Hid (Below w.heap.size w w1) := si.bl
  generalize l.length = ll at *
  clear C7 si
  go_wp2_with fail
  refine CP.mono ?_; rintro e w2 ⟨⟨R, t0, s0, No, rfl, ini, hT, hrp⟩, hb2⟩
  have HB2 : Hid (Below w.heap.size w w2) := bthen HB1.out HB1.out.size hb2
  have HZ : Hid (∀ i, i < n → ∃ t s, Pz w2 R i t s (P i).1 (P i).2) := fun i hi => ⟨_, _, pz_all hn0.1 HR.out ini hT hrp i hi⟩
  obtain ⟨x0, c0, r0, v0⟩ := ((hrp 0 (by omega)).rz).ex
  have HA : Hid (∀ W, Below w2.heap.size w2 W → W.cell? ⟨R, 0, none⟩ = some (.slice x0 1 c0)) := fun W b => by rw [World.cell?_of_block (w := w2) (b.block R r0.lt)]; exact r0.c0
  have HC : Hid (∀ W, Below w2.heap.size w2 W → Calls Tryz.prog 8 #[.slice x0 1 c0, .slice (some ⟨W.heap.size, 0, none⟩) 1 1] (W.alloc (.cells #[.int .i64 4, .int .i64 1, .string ⟨#[]⟩] 37)) fun e W' => e = .returned (.bool true) ∧ Below (W.alloc (.cells #[.int .i64 4, .int .i64 1, .string ⟨#[]⟩] 37)).heap.size (W.alloc (.cells #[.int .i64 4, .int .i64 1, .string ⟨#[]⟩] 37)) W') := fun W b =>
    sameVals_any (F := fun i => [tab1].getD i nil) ((v0.below b).below (b1 _ _)) (vin_tab W) (by decide)
  have HN : Hid (Below w2.heap.size w2 w2.drew) := bdrew1 w2
  clear CP ini hT hrp hb2 HB1 r0 v0
  have w1' : IntKind.i64.wrap (5 * (n : Int)) = 5 * (n : Int) := by rw [IntKind.wrap_i64]; omega
  have w2' : IntKind.i64.wrap (1 + 5 * (n : Int)) = 1 + 5 * (n : Int) := by rw [IntKind.wrap_i64]; omega
  have w0' : (0 : Int) < 1 + 5 * (n : Int) := by omega
  go_wp2_with fail
  go_region_held3 (fun W => W.cell? ⟨R, 0, none⟩ = some (.slice x0 1 c0))
    (first | exact HA.out _ HN.out | exact HA.out _ (bthen HN.out HN.out.size (b1 _ _)) | go_keep)
    (first
      | (go_at_call 9; refine (tab9 1 _).mono ?_; unfold vl; rintro e W ⟨rfl, hb⟩; have HN : Hid (Below w2.heap.size w2 W) := bthen HN.out HN.out.size hb; clear hb)
      | (go_at_call 8; refine (HC.out _ HN.out).mono ?_; rintro e W ⟨rfl, hb⟩; have HN : Hid (Below w2.heap.size w2 W) := bthen (bthen HN.out HN.out.size (b1 _ _)) (bthen HN.out HN.out.size (b1 _ _)).size hb; clear hb))
  go_wp2_with fail
  clear w1' w2' w0'
  go_loopw [5] (fun iv wr => ∃ i : Nat, iv = .int .i64 (i : Nat) ∧ i ≤ n ∧ Hid (Below w2.heap.size w2 wr)) (fun iv _ => n - (intOf iv).toNat)
  case atStart => exact ⟨0, rfl, by omega, HN.out⟩
  case round => as_aux_lemma =>
    clear HN
    obtain ⟨i, rfl, hi, HW⟩ := hrel
    by_cases hlt : i < n
    · have hlt' : (i : Int) < (n : Int) := by omega
      have wi : IntKind.i64.wrap ((i : Int) + 1) = (i : Int) + 1 := by rw [IntKind.wrap_i64]; omega
      obtain ⟨t, s, z⟩ := HZ.out i hlt
      have z := z.below HW.out
      obtain ⟨x1, c1, r1, v1⟩ := z.z1.ex
      obtain ⟨x2, c2, r2, v2⟩ := z.z2.ex
      obtain ⟨x3, c3, r3, v3⟩ := z.z3.ex
      obtain ⟨x4, c4, r4, v4⟩ := z.z4.ex
      obtain ⟨x5, c5, r5, v5⟩ := z.z5.ex
      have HD : Hid (Rd t s (P i).1 (P i).2) := z.rd
      have HV1 : Hid (Vin wr x1 5 (fun i => (stL t).getD i nil)) := v1
      have HV4 : Hid (Vin wr x4 5 (fun j => (stL (t3F t s (P i).1 (P i).2).1).getD j nil)) := v4
      have HV2 : Hid (Vin wr x2 (gotF t (P i).1).1.length (fun j => (gotF t (P i).1).1.getD j nil)) := v2
      have HV5 : Hid (Vin wr x5 (prL (wl (t3F t s (P i).1 (P i).2).1.p)).length (fun j => (prL (wl (t3F t s (P i).1 (P i).2).1.p)).getD j nil)) := v5
      have hlL := prL_len (wl (t3F t s (P i).1 (P i).2).1.p)
      have hwl : (wl (t3F t s (P i).1 (P i).2).1.p).length ≤ 500 := by rw [wl_len]; have := HD.out.pj.sm.pr; omega
      obtain ⟨er, he⟩ : ∃ er, errF t s (P i).1 (P i).2 = er := ⟨_, rfl⟩
      obtain ⟨e2, he2⟩ : ∃ e2, (gotF t (P i).1).2 = e2 := ⟨_, rfl⟩
      obtain ⟨L2, hL2⟩ : ∃ L2, (gotF t (P i).1).1.length = L2 := ⟨_, rfl⟩
      obtain ⟨lL, hlL5⟩ : ∃ lL, (prL (wl (t3F t s (P i).1 (P i).2).1.p)).length = lL := ⟨_, rfl⟩
      rw [he] at r3
      rw [he2, hL2] at r2
      have r1 : Ro wr R ((1 + 5 * i) * 11) (.slice x1 5 c1) 0 := r1
      have r3 : Ro wr R ((3 + 5 * i) * 11) (.slice x3 0 c3) er := r3
      have r4 : Ro wr R ((4 + 5 * i) * 11) (.slice x4 5 c4) 0 := r4
      have r5 : Ro wr R ((5 + 5 * i) * 11) (.slice x5 (prL (wl (t3F t s (P i).1 (P i).2).1.p)).length c5) 0 := r5
      rw [hlL5] at r5
      have g5 : IntKind.i64.wrap (5 * (i : Int)) = 5 * (i : Int) := by rw [IntKind.wrap_i64]; omega
      have g1' : IntKind.i64.wrap (1 + 5 * (i : Int)) = 1 + 5 * (i : Int) := by rw [IntKind.wrap_i64]; omega
      have l1 : 1 + 5 * (i : Int) < 1 + 5 * (n : Int) := by omega
      have m1 : 0 ≤ 1 + 5 * (i : Int) := by omega
      have t1 : (1 + 5 * (i : Int)).toNat = 1 + 5 * i := by omega
      have g2' : IntKind.i64.wrap (2 + 5 * (i : Int)) = 2 + 5 * (i : Int) := by rw [IntKind.wrap_i64]; omega
      have l2 : 2 + 5 * (i : Int) < 1 + 5 * (n : Int) := by omega
      have m2 : 0 ≤ 2 + 5 * (i : Int) := by omega
      have t2 : (2 + 5 * (i : Int)).toNat = 2 + 5 * i := by omega
      have g3' : IntKind.i64.wrap (3 + 5 * (i : Int)) = 3 + 5 * (i : Int) := by rw [IntKind.wrap_i64]; omega
      have l3 : 3 + 5 * (i : Int) < 1 + 5 * (n : Int) := by omega
      have m3 : 0 ≤ 3 + 5 * (i : Int) := by omega
      have t3 : (3 + 5 * (i : Int)).toNat = 3 + 5 * i := by omega
      have g4' : IntKind.i64.wrap (4 + 5 * (i : Int)) = 4 + 5 * (i : Int) := by rw [IntKind.wrap_i64]; omega
      have l4 : 4 + 5 * (i : Int) < 1 + 5 * (n : Int) := by omega
      have m4 : 0 ≤ 4 + 5 * (i : Int) := by omega
      have t4 : (4 + 5 * (i : Int)).toNat = 4 + 5 * i := by omega
      have g5' : IntKind.i64.wrap (5 + 5 * (i : Int)) = 5 + 5 * (i : Int) := by rw [IntKind.wrap_i64]; omega
      have l5 : 5 + 5 * (i : Int) < 1 + 5 * (n : Int) := by omega
      have m5 : 0 ≤ 5 + 5 * (i : Int) := by omega
      have t5 : (5 + 5 * (i : Int)).toNat = 5 + 5 * i := by omega
      have HS : Hid (∀ W, Below wr.heap.size wr W → S5 R ((1 + 5 * i) * 11) ((2 + 5 * i) * 11) ((3 + 5 * i) * 11) ((4 + 5 * i) * 11) ((5 + 5 * i) * 11) (.slice x1 5 c1) (.slice x2 L2 c2) (.slice x3 0 c3) (.slice x4 5 c4) (.slice x5 lL c5) 0 e2 er 0 0 W) := fun W b => ⟨r1.below b, r2.below b, r3.below b, r4.below b, r5.below b⟩
      clear z v1 v2 v3 v4 v5 r1 r2 r3 r4 r5
      go_wp2_with fail
      refine wp_region_held (S := S5 R ((1 + 5 * i) * 11) ((2 + 5 * i) * 11) ((3 + 5 * i) * 11) ((4 + 5 * i) * 11) ((5 + 5 * i) * 11) (.slice x1 5 c1) (.slice x2 L2 c2) (.slice x3 0 c3) (.slice x4 5 c4) (.slice x5 lL c5) 0 e2 er 0 0) (by kernel_rfl) ?_
      have HSd := HS.out _ (bdrew1 wr)
      refine take_d (i := 0) (d := some 51) (v := ?v0) rfl rfl (by kernel_rfl) (by kernel_rfl) (by kernel_rfl) (fun _ _ _ h => h) ?hy0 HSd ?hn0
      case hy0 =>
        refine Or.inl ⟨rfl, ?_⟩
        intro W hSw
        clear hSw
        go_simp
        try (with_reducible rfl)
      simp only [Act.put, List.setIfInBounds_toArray, List.set_cons_zero, List.set_cons_succ]
      refine take_d (i := 1) (d := some 52) (v := ?v1) rfl rfl (by kernel_rfl) (by kernel_rfl) (by kernel_rfl) (fun _ _ _ h => h) ?hy1 HSd ?hn1
      case hy1 =>
        refine Or.inl ⟨rfl, ?_⟩
        intro W hSw
        clear hSw
        go_simp
        try (with_reducible rfl)
      simp only [Act.put, List.setIfInBounds_toArray, List.set_cons_zero, List.set_cons_succ]
      refine take_d (i := 2) (d := some 53) (v := ?v2) rfl rfl (by kernel_rfl) (by kernel_rfl) (by kernel_rfl) (fun _ _ _ h => h) ?hy2 HSd ?hn2
      case hy2 =>
        refine Or.inl ⟨rfl, ?_⟩
        intro W hSw
        clear hSw
        go_simp
        try (with_reducible rfl)
      simp only [Act.put, List.setIfInBounds_toArray, List.set_cons_zero, List.set_cons_succ]
      refine take_d (i := 3) (d := some 54) (v := ?v3) rfl rfl (by kernel_rfl) (by kernel_rfl) (by kernel_rfl) (fun _ _ _ h => h) ?hy3 HSd ?hn3
      case hy3 =>
        refine Or.inl ⟨rfl, ?_⟩
        intro W hSw
        clear hSw
        go_simp
        try (with_reducible rfl)
      simp only [Act.put, List.setIfInBounds_toArray, List.set_cons_zero, List.set_cons_succ]
      refine take_d (i := 4) (d := some 55) (v := ?v4) rfl rfl (by kernel_rfl) (by kernel_rfl) (by kernel_rfl) (fun _ _ _ h => h) ?hy4 HSd ?hn4
      case hy4 =>
        refine Or.inl ⟨rfl, ?_⟩
        intro W hSw
        clear hSw
        go_simp
        try (with_reducible rfl)
      simp only [Act.put, List.setIfInBounds_toArray, List.set_cons_zero, List.set_cons_succ]
      refine take_d (i := 5) (d := some 56) (v := ?v5) rfl rfl (by kernel_rfl) (by kernel_rfl) (by kernel_rfl) (fun _ _ _ h => h) ?hy5 HSd ?hn5
      case hy5 =>
        refine Or.inl ⟨rfl, ?_⟩
        intro W hSw
        obtain ⟨⟨b0, b1, b2, b3, b4, b5, b6, b7, b8, b9, b10, _, _⟩, _, _, _, _⟩ := hSw
        go_simp
        try (with_reducible rfl)
      simp only [Act.put, List.setIfInBounds_toArray, List.set_cons_zero, List.set_cons_succ]
      refine take_d (i := 6) (d := some 57) (v := ?v6) rfl rfl (by kernel_rfl) (by kernel_rfl) (by kernel_rfl) (fun _ _ _ h => h) ?hy6 HSd ?hn6
      case hy6 =>
        refine Or.inl ⟨rfl, ?_⟩
        intro W hSw
        clear hSw
        go_simp
        try (with_reducible rfl)
      simp only [Act.put, List.setIfInBounds_toArray, List.set_cons_zero, List.set_cons_succ]
      refine take_d (i := 7) (d := some 58) (v := ?v7) rfl rfl (by kernel_rfl) (by kernel_rfl) (by kernel_rfl) (fun _ _ _ h => h) ?hy7 HSd ?hn7
      case hy7 =>
        refine Or.inl ⟨rfl, ?_⟩
        intro W hSw
        clear hSw
        go_simp
        try (with_reducible rfl)
      simp only [Act.put, List.setIfInBounds_toArray, List.set_cons_zero, List.set_cons_succ]
      refine take_d (i := 8) (d := some 59) (v := ?v8) rfl rfl (by kernel_rfl) (by kernel_rfl) (by kernel_rfl) (fun _ _ _ h => h) ?hy8 HSd ?hn8
      case hy8 =>
        refine Or.inl ⟨rfl, ?_⟩
        intro W hSw
        clear hSw
        go_simp
        try (with_reducible rfl)
      simp only [Act.put, List.setIfInBounds_toArray, List.set_cons_zero, List.set_cons_succ]
      refine take_d (i := 9) (d := some 60) (v := ?v9) rfl rfl (by kernel_rfl) (by kernel_rfl) (by kernel_rfl) (fun _ _ _ h => h) ?hy9 HSd ?hn9
      case hy9 =>
        refine Or.inl ⟨rfl, ?_⟩
        intro W hSw
        clear hSw
        go_simp
        try (with_reducible rfl)
      simp only [Act.put, List.setIfInBounds_toArray, List.set_cons_zero, List.set_cons_succ]
      refine take_d (i := 10) (d := some 61) (v := ?v10) rfl rfl (by kernel_rfl) (by kernel_rfl) (by kernel_rfl) (fun _ _ _ h => h) ?hy10 HSd ?hn10
      case hy10 =>
        refine Or.inl ⟨rfl, ?_⟩
        intro W hSw
        clear hSw
        go_simp
        try (with_reducible rfl)
      simp only [Act.put, List.setIfInBounds_toArray, List.set_cons_zero, List.set_cons_succ]
      refine take_d (i := 11) (d := some 62) (v := ?v11) rfl rfl (by kernel_rfl) (by kernel_rfl) (by kernel_rfl) (fun _ _ _ h => h) ?hy11 HSd ?hn11
      case hy11 =>
        refine Or.inl ⟨rfl, ?_⟩
        intro W hSw
        obtain ⟨_, ⟨b0, b1, b2, b3, b4, b5, b6, b7, b8, b9, b10, _, _⟩, _, _, _⟩ := hSw
        go_simp
        try (with_reducible rfl)
      simp only [Act.put, List.setIfInBounds_toArray, List.set_cons_zero, List.set_cons_succ]
      refine take_d (i := 12) (d := some 63) (v := ?v12) rfl rfl (by kernel_rfl) (by kernel_rfl) (by kernel_rfl) (fun _ _ _ h => h) ?hy12 HSd ?hn12
      case hy12 =>
        refine Or.inl ⟨rfl, ?_⟩
        intro W hSw
        clear hSw
        go_simp
        try (with_reducible rfl)
      simp only [Act.put, List.setIfInBounds_toArray, List.set_cons_zero, List.set_cons_succ]
      refine take_d (i := 13) (d := some 64) (v := ?v13) rfl rfl (by kernel_rfl) (by kernel_rfl) (by kernel_rfl) (fun _ _ _ h => h) ?hy13 HSd ?hn13
      case hy13 =>
        refine Or.inl ⟨rfl, ?_⟩
        intro W hSw
        clear hSw
        go_simp
        try (with_reducible rfl)
      simp only [Act.put, List.setIfInBounds_toArray, List.set_cons_zero, List.set_cons_succ]
      refine take_d (i := 14) (d := some 65) (v := ?v14) rfl rfl (by kernel_rfl) (by kernel_rfl) (by kernel_rfl) (fun _ _ _ h => h) ?hy14 HSd ?hn14
      case hy14 =>
        refine Or.inl ⟨rfl, ?_⟩
        intro W hSw
        clear hSw
        go_simp
        try (with_reducible rfl)
      simp only [Act.put, List.setIfInBounds_toArray, List.set_cons_zero, List.set_cons_succ]
      refine take_d (i := 15) (d := some 66) (v := ?v15) rfl rfl (by kernel_rfl) (by kernel_rfl) (by kernel_rfl) (fun _ _ _ h => h) ?hy15 HSd ?hn15
      case hy15 =>
        refine Or.inl ⟨rfl, ?_⟩
        intro W hSw
        clear hSw
        go_simp
        try (with_reducible rfl)
      simp only [Act.put, List.setIfInBounds_toArray, List.set_cons_zero, List.set_cons_succ]
      refine take_d (i := 16) (d := some 67) (v := ?v16) rfl rfl (by kernel_rfl) (by kernel_rfl) (by kernel_rfl) (fun _ _ _ h => h) ?hy16 HSd ?hn16
      case hy16 =>
        refine Or.inl ⟨rfl, ?_⟩
        intro W hSw
        clear hSw
        go_simp
        try (with_reducible rfl)
      simp only [Act.put, List.setIfInBounds_toArray, List.set_cons_zero, List.set_cons_succ]
      refine take_d (i := 17) (d := some 68) (v := ?v17) rfl rfl (by kernel_rfl) (by kernel_rfl) (by kernel_rfl) (fun _ _ _ h => h) ?hy17 HSd ?hn17
      case hy17 =>
        refine Or.inl ⟨rfl, ?_⟩
        intro W hSw
        obtain ⟨_, _, ⟨b0, b1, b2, b3, b4, b5, b6, b7, b8, b9, b10, _, _⟩, _, _⟩ := hSw
        go_simp
        try (with_reducible rfl)
      simp only [Act.put, List.setIfInBounds_toArray, List.set_cons_zero, List.set_cons_succ]
      refine take_d (i := 18) (d := some 69) (v := ?v18) rfl rfl (by kernel_rfl) (by kernel_rfl) (by kernel_rfl) (fun _ _ _ h => h) ?hy18 HSd ?hn18
      case hy18 =>
        refine Or.inl ⟨rfl, ?_⟩
        intro W hSw
        clear hSw
        go_simp
        try (with_reducible rfl)
      simp only [Act.put, List.setIfInBounds_toArray, List.set_cons_zero, List.set_cons_succ]
      refine take_d (i := 19) (d := some 70) (v := ?v19) rfl rfl (by kernel_rfl) (by kernel_rfl) (by kernel_rfl) (fun _ _ _ h => h) ?hy19 HSd ?hn19
      case hy19 =>
        refine Or.inl ⟨rfl, ?_⟩
        intro W hSw
        clear hSw
        go_simp
        try (with_reducible rfl)
      simp only [Act.put, List.setIfInBounds_toArray, List.set_cons_zero, List.set_cons_succ]
      refine take_d (i := 20) (d := some 71) (v := ?v20) rfl rfl (by kernel_rfl) (by kernel_rfl) (by kernel_rfl) (fun _ _ _ h => h) ?hy20 HSd ?hn20
      case hy20 =>
        refine Or.inl ⟨rfl, ?_⟩
        intro W hSw
        clear hSw
        go_simp
        try (with_reducible rfl)
      simp only [Act.put, List.setIfInBounds_toArray, List.set_cons_zero, List.set_cons_succ]
      refine take_d (i := 21) (d := some 72) (v := ?v21) rfl rfl (by kernel_rfl) (by kernel_rfl) (by kernel_rfl) (fun _ _ _ h => h) ?hy21 HSd ?hn21
      case hy21 =>
        refine Or.inl ⟨rfl, ?_⟩
        intro W hSw
        clear hSw
        go_simp
        try (with_reducible rfl)
      simp only [Act.put, List.setIfInBounds_toArray, List.set_cons_zero, List.set_cons_succ]
      refine take_d (i := 22) (d := some 73) (v := ?v22) rfl rfl (by kernel_rfl) (by kernel_rfl) (by kernel_rfl) (fun _ _ _ h => h) ?hy22 HSd ?hn22
      case hy22 =>
        refine Or.inl ⟨rfl, ?_⟩
        intro W hSw
        clear hSw
        go_simp
        try (with_reducible rfl)
      simp only [Act.put, List.setIfInBounds_toArray, List.set_cons_zero, List.set_cons_succ]
      refine take_d (i := 23) (d := some 74) (v := ?v23) rfl rfl (by kernel_rfl) (by kernel_rfl) (by kernel_rfl) (fun _ _ _ h => h) ?hy23 HSd ?hn23
      case hy23 =>
        refine Or.inl ⟨rfl, ?_⟩
        intro W hSw
        obtain ⟨_, _, _, ⟨b0, b1, b2, b3, b4, b5, b6, b7, b8, b9, b10, _, _⟩, _⟩ := hSw
        go_simp
        try (with_reducible rfl)
      simp only [Act.put, List.setIfInBounds_toArray, List.set_cons_zero, List.set_cons_succ]
      refine take_d (i := 24) (d := some 75) (v := ?v24) rfl rfl (by kernel_rfl) (by kernel_rfl) (by kernel_rfl) (fun _ _ _ h => h) ?hy24 HSd ?hn24
      case hy24 =>
        refine Or.inl ⟨rfl, ?_⟩
        intro W hSw
        clear hSw
        go_simp
        try (with_reducible rfl)
      simp only [Act.put, List.setIfInBounds_toArray, List.set_cons_zero, List.set_cons_succ]
      refine take_d (i := 25) (d := some 76) (v := ?v25) rfl rfl (by kernel_rfl) (by kernel_rfl) (by kernel_rfl) (fun _ _ _ h => h) ?hy25 HSd ?hn25
      case hy25 =>
        refine Or.inl ⟨rfl, ?_⟩
        intro W hSw
        clear hSw
        go_simp
        try (with_reducible rfl)
      simp only [Act.put, List.setIfInBounds_toArray, List.set_cons_zero, List.set_cons_succ]
      refine take_d (i := 26) (d := some 77) (v := ?v26) rfl rfl (by kernel_rfl) (by kernel_rfl) (by kernel_rfl) (fun _ _ _ h => h) ?hy26 HSd ?hn26
      case hy26 =>
        refine Or.inl ⟨rfl, ?_⟩
        intro W hSw
        clear hSw
        go_simp
        try (with_reducible rfl)
      simp only [Act.put, List.setIfInBounds_toArray, List.set_cons_zero, List.set_cons_succ]
      refine take_d (i := 27) (d := some 78) (v := ?v27) rfl rfl (by kernel_rfl) (by kernel_rfl) (by kernel_rfl) (fun _ _ _ h => h) ?hy27 HSd ?hn27
      case hy27 =>
        refine Or.inl ⟨rfl, ?_⟩
        intro W hSw
        clear hSw
        go_simp
        try (with_reducible rfl)
      simp only [Act.put, List.setIfInBounds_toArray, List.set_cons_zero, List.set_cons_succ]
      refine take_d (i := 28) (d := some 79) (v := ?v28) rfl rfl (by kernel_rfl) (by kernel_rfl) (by kernel_rfl) (fun _ _ _ h => h) ?hy28 HSd ?hn28
      case hy28 =>
        refine Or.inl ⟨rfl, ?_⟩
        intro W hSw
        clear hSw
        go_simp
        try (with_reducible rfl)
      simp only [Act.put, List.setIfInBounds_toArray, List.set_cons_zero, List.set_cons_succ]
      refine take_d (i := 29) (d := some 80) (v := ?v29) rfl rfl (by kernel_rfl) (by kernel_rfl) (by kernel_rfl) (fun _ _ _ h => h) ?hy29 HSd ?hn29
      case hy29 =>
        refine Or.inl ⟨rfl, ?_⟩
        intro W hSw
        obtain ⟨_, _, _, _, ⟨b0, b1, b2, b3, b4, b5, b6, b7, b8, b9, b10, _, _⟩⟩ := hSw
        go_simp
        try (with_reducible rfl)
      simp only [Act.put, List.setIfInBounds_toArray, List.set_cons_zero, List.set_cons_succ]
      refine wpAnyH_boxes0 (bs := [⟨30, 35, 6, 56, .slice x1 5 c1, 0⟩, ⟨31, 36, 7, 62, .slice x2 L2 c2, e2⟩, ⟨32, 37, 8, 68, .slice x3 0 c3, er⟩, ⟨33, 38, 9, 74, .slice x4 5 c4, 0⟩, ⟨34, 39, 10, 80, .slice x5 lL c5, 0⟩]) ⟨?hnd, ?hndd, ?hlt, ?hao, ?hso, lo_of (by kernel_rfl), ?hts⟩ rfl (by kernel_rfl) (Nat.le_refl 10) ?hsd ?hva ?hone (fun W b => HS.out W (bdrew_of b)) ?hQ
      case hnd => exact (by decide : List.Nodup [30, 31, 32, 33, 34, 35, 36, 37, 38, 39])
      case hndd => exact (by decide : List.Nodup [6, 7, 8, 9, 10])
      case hlt => exact (by decide : ∀ j ∈ ([30, 31, 32, 33, 34, 35, 36, 37, 38, 39] : List Nat), j < 40)
      case hao =>
        intro b hb; simp only [List.mem_cons, List.not_mem_nil, or_false] at hb; obtain rfl | rfl | rfl | rfl | rfl := hb
        all_goals exact ⟨_, rfl, rfl, rfl, rfl⟩
      case hso =>
        intro b hb; simp only [List.mem_cons, List.not_mem_nil, or_false] at hb; obtain rfl | rfl | rfl | rfl | rfl := hb
        · exact ⟨_, rfl, rfl, rfl, rfl, by first | exact ⟨_, List.mem_cons_self .., rfl, rfl⟩ | exact ⟨_, List.mem_cons_of_mem _ (List.mem_cons_self ..), rfl, rfl⟩ | exact ⟨_, List.mem_cons_of_mem _ (List.mem_cons_of_mem _ (List.mem_cons_self ..)), rfl, rfl⟩⟩
        · exact ⟨_, rfl, rfl, rfl, rfl, by first | exact ⟨_, List.mem_cons_self .., rfl, rfl⟩ | exact ⟨_, List.mem_cons_of_mem _ (List.mem_cons_self ..), rfl, rfl⟩ | exact ⟨_, List.mem_cons_of_mem _ (List.mem_cons_of_mem _ (List.mem_cons_self ..)), rfl, rfl⟩⟩
        · exact ⟨_, rfl, rfl, rfl, rfl, by first | exact ⟨_, List.mem_cons_self .., rfl, rfl⟩ | exact ⟨_, List.mem_cons_of_mem _ (List.mem_cons_self ..), rfl, rfl⟩ | exact ⟨_, List.mem_cons_of_mem _ (List.mem_cons_of_mem _ (List.mem_cons_self ..)), rfl, rfl⟩⟩
        · exact ⟨_, rfl, rfl, rfl, rfl, by first | exact ⟨_, List.mem_cons_self .., rfl, rfl⟩ | exact ⟨_, List.mem_cons_of_mem _ (List.mem_cons_self ..), rfl, rfl⟩ | exact ⟨_, List.mem_cons_of_mem _ (List.mem_cons_of_mem _ (List.mem_cons_self ..)), rfl, rfl⟩⟩
        · exact ⟨_, rfl, rfl, rfl, rfl, by first | exact ⟨_, List.mem_cons_self .., rfl, rfl⟩ | exact ⟨_, List.mem_cons_of_mem _ (List.mem_cons_self ..), rfl, rfl⟩ | exact ⟨_, List.mem_cons_of_mem _ (List.mem_cons_of_mem _ (List.mem_cons_self ..)), rfl, rfl⟩⟩
      case hts =>
        intro b hb; simp only [List.mem_cons, List.not_mem_nil, or_false] at hb; obtain rfl | rfl | rfl | rfl | rfl := hb
        all_goals (intro c hc; simp only [List.mem_cons, List.not_mem_nil, or_false] at hc; obtain rfl | rfl | rfl | rfl | rfl := hc <;> (show ¬ _; simp only []; decide))
      case hsd =>
        intro b hb; simp only [List.mem_cons, List.not_mem_nil, or_false] at hb; obtain rfl | rfl | rfl | rfl | rfl := hb
        all_goals (show (_ : Nat) < _; simp)
      case hva =>
        intro b hb; simp only [List.mem_cons, List.not_mem_nil, or_false] at hb; obtain rfl | rfl | rfl | rfl | rfl := hb
        all_goals kernel_rfl
      case hone =>
        intro b hb; simp only [List.mem_cons, List.not_mem_nil, or_false] at hb; obtain rfl | rfl | rfl | rfl | rfl := hb
        all_goals rfl
      case hQ => as_aux_lemma =>
        intro N W hbW hp
        have p1 := (hp _ (List.mem_cons_self ..)).2
        have p2 := (hp _ (List.mem_cons_of_mem _ (List.mem_cons_self ..))).2
        have p3 := (hp _ (List.mem_cons_of_mem _ (List.mem_cons_of_mem _ (List.mem_cons_self ..)))).2
        have p4 := (hp _ (List.mem_cons_of_mem _ (List.mem_cons_of_mem _ (List.mem_cons_of_mem _ (List.mem_cons_self ..))))).2
        have p5 := (hp _ (List.mem_cons_of_mem _ (List.mem_cons_of_mem _ (List.mem_cons_of_mem _ (List.mem_cons_of_mem _ (List.mem_cons_self ..)))))).2
        have hbW : Below wr.heap.size wr W := (bthen (bdrew1 wr) (bdrew1 wr).size hbW : Below wr.heap.size wr W)
        simp only [List.foldl_cons, List.foldl_nil, Act.put, List.setIfInBounds_toArray, List.set_cons_zero, List.set_cons_succ]
        dsimp only at p1 p2 p3 p4 p5
        generalize N 30 = N1 at *
        generalize N 31 = N2 at *
        generalize N 32 = N3 at *
        generalize N 33 = N4 at *
        generalize N 34 = N5 at *
        have HB3 : Hid (Below w2.heap.size w2 W) := bthen HW.out HW.out.size hbW
        obtain ⟨lb, lf, rfl, hlb, s0, s1, s2, s3, s4, s5, _⟩ := stl_cells (HV1.out.below hbW)
        obtain ⟨nb, nf, rfl, hnb, n0, n1, n2, n3, n4, n5, _⟩ := stl_cells (HV4.out.below hbW)
        obtain ⟨pb, pf, rfl, hpb, _, _, _, q3, _, _⟩ := (HP.out.below (bthen HB2.out HB2.out.size HB3.out)).at' i hlt
        have f1 := p1.c0
        have f2 := p2.c0
        have f2e := p2.c1
        have f3 := p3.c1
        have f4 := p4.c0
        have f5 := p5.c0
        have HX : Hid (∀ W', Below W.heap.size W W' → Vin W' x5 lL (fun j => (prL (wl (t3F t s (P i).1 (P i).2).1.p)).getD j nil)) := fun W' b => by
          have := (HV5.out.below hbW).below b
          rwa [hlL5] at this
        have HT : Hid (∀ W', Below W.heap.size W W' → S13 N4 N5 nb nf (.slice (some ⟨nb, nf, none⟩) 5 c4) (.slice x5 lL c5) ((t3F t s (P i).1 (P i).2).1.p.n : Nat) ((t3F t s (P i).1 (P i).2).1.p.z : Nat) W') := fun W' b =>
          ⟨by rw [World.cell?_of_block (w := W) (b.block N4 p4.lt)]; exact f4, by rw [World.cell?_of_block (w := W) (b.block nb hnb)]; exact n1, by rw [World.cell?_of_block (w := W) (b.block nb hnb)]; exact n4, by rw [World.cell?_of_block (w := W) (b.block N5 p5.lt)]; exact f5⟩
        have hmod : Int.tmod ((lL : Nat) : Int) 2 = 0 := by rw [← hlL5, hlL, Int.natCast_mul]; exact Int.mul_tmod_right _ _
        have hwr0 : IntKind.i64.wrap 0 = 0 := by decide
        clear p1 p2 p3 p4 p5 hp HSd
        have HER : Hid (errF t s (P i).1 (P i).2 = er) := he
        have HE2 : Hid ((gotF t (P i).1).2 = e2) := he2
        have HL2 : Hid ((gotF t (P i).1).1.length = L2) := hL2
        have HXG : Hid (Vin W x2 (gotF t (P i).1).1.length (fun j => (gotF t (P i).1).1.getD j nil)) := HV2.out.below hbW
        have hde := HD.out.err
        rw [he] at hde
        have hnb := HD.out.tj.le
        have hzb := HD.out.tj.rt.le
        have hsz : er = 0 → (P i).2.1 ≠ 0 → (t3F t s (P i).1 (P i).2).1.p.n + (t3F t s (P i).1 (P i).2).1.p.z ≠ 0 := fun a b => HD.out.some (he.trans a) b
        have hns : ¬ ((t3F t s (P i).1 (P i).2).1.p.n = t.p.n ∧ (t3F t s (P i).1 (P i).2).1.p.z = t.p.z) → er = 0 ∧ gotF t (P i).1 = ([nil], 0) ∧ (P i).2.1 ≠ 0 ∧ Fits (pres (t3F t s (P i).1 (P i).2).1.p) (t3F t s (P i).1 (P i).2).1.p.n (t3F t s (P i).1 (P i).2).1.p.z := fun q => by
          have := HD.out.sizes q
          rw [he] at this
          exact this
        have hg1 : er = 0 → ∃ y, gotF t (P i).1 = ([y], 0) := fun a => by
          have q := (err0 (he.trans a)).1
          rw [Bool.and_eq_true] at q
          exact ⟨pget t.p (P i).1, by unfold gotF; rw [if_pos q.1]⟩
        have HCN : Hid (Fits (pres (t3F t s (P i).1 (P i).2).1.p) (t3F t s (P i).1 (P i).2).1.p.n (t3F t s (P i).1 (P i).2).1.p.z → ∀ W', Below W.heap.size W W' → Calls Tryz.prog 10 #[.int .i64 ((t3F t s (P i).1 (P i).2).1.p.n : Nat), .int .i64 ((t3F t s (P i).1 (P i).2).1.p.z : Nat), .slice x5 lL c5] W' fun e w'' => e = .returned (.bool true) ∧ Below W'.heap.size W' w'') := fun hf W' b => by
          have hk : ∀ k, k ∈ (wl (t3F t s (P i).1 (P i).2).1.p).map (·.1) → KOK k := fun k hk => by rw [wl_pres] at hk; exact (HD.out.tj.mem_pres.1 hk).1
          have hx := HX.out W' b
          rw [← hlL5] at hx ⊢
          exact census_any hx hwl (Fits.cen (by rw [wl_pres]; exact hf) hk)
        clear he he2 hL2 hlL hwl hlL5
        generalize HAn : (t3F t s (P i).1 (P i).2).1.p.n = A' at *
        generalize HZn : (t3F t s (P i).1 (P i).2).1.p.z = Z' at *
        generalize HA0 : t.p.n = A at *
        generalize HZ0 : t.p.z = Z at *
        have waz : IntKind.i64.wrap ((A' : Int) + (Z' : Int)) = (A' : Int) + (Z' : Int) := by rw [IntKind.wrap_i64]; omega
        have HSZ : Hid (er = 0 → (P i).2.1 ≠ 0 → A' + Z' ≠ 0) := hsz
        have HNS : Hid (¬ (A' = A ∧ Z' = Z) → er = 0 ∧ gotF t (P i).1 = ([nil], 0) ∧ (P i).2.1 ≠ 0 ∧ Fits (pres (t3F t s (P i).1 (P i).2).1.p) A' Z') := hns
        have HG1 : Hid (er = 0 → ∃ y, gotF t (P i).1 = ([y], 0)) := hg1
        have HDE : Hid (er = 0 ∨ er = 2 ∨ er = 9) := hde
        have g32 := guard32
        have NA := eql32 2 A 2 A' ⟨#[]⟩ ⟨#[]⟩
        have NZ := eql32 2 Z 2 Z' ⟨#[]⟩ ⟨#[]⟩
        unfold vl at NA NZ
        clear hsz hns hg1 hde HAn HZn HA0 HZ0 hnb hzb HS HW HV1 HV2 HV4 HV5
        go_wp2_with fail
        by_cases hAZ : A' = A ∧ Z' = Z
        · obtain ⟨rfl, rfl⟩ := hAZ
          simp only [decide_true] at NA NZ
          go_quiet (fail)
          by_cases h0 : er = 0
          · subst h0
            obtain ⟨y, hy⟩ := HG1.out rfl
            have e2e : e2 = 0 := by rw [← HE2.out, hy]
            have L2e : L2 = 1 := by rw [← HL2.out, hy]; rfl
            subst e2e L2e
            have HG := HXG.out
            rw [hy] at HG
            obtain ⟨gb, gf, rfl, _, y0, _, _⟩ := HG.at' 0 Nat.zero_lt_one
            have y0 : W.cell? ⟨gb, gf, none⟩ = some (.int .i64 y.1) := y0
            clear HG hy
            by_cases h1 : y.1 = 0
            · by_cases h2 : (P i).2.1 = 0
              · go_wp2_with fail
                go_quiet (fail)
                go_wp2_with fail
                go_quiet (fail)
                go_wp2_with fail
                go_roundw
                case rel => exact ⟨i + 1, by go_num, by omega, (by repeat (first | exact HB3.out | exact HE.out | refine bdN ?_ _))⟩
                case measure => first | omega | (simp only [intOf]; omega) | (simp; omega)
              · have hb2 : ((P i).2.1 == 0) = false := by simpa using h2
                have hb3 : ((P i).2.1 != 0) = true := by simpa using h2
                have hs := HSZ.out rfl h2
                have hs2 : ¬ (A' : Int) + (Z' : Int) = 0 := by omega
                have hs3 : ((A' : Int) + (Z' : Int) == 0) = false := by simpa using hs2
                clear hs
                go_wp2_with fail
                go_quiet (fail)
                go_wp2_with fail
                go_quiet (fail)
                go_wp2_with fail
                go_roundw
                case rel => exact ⟨i + 1, by go_num, by omega, (by repeat (first | exact HB3.out | exact HE.out | refine bdN ?_ _))⟩
                case measure => first | omega | (simp only [intOf]; omega) | (simp; omega)
            · have hb1 : (y.1 == 0) = false := by simpa using h1
              go_wp2_with fail
              go_quiet (fail)
              go_wp2_with fail
              go_quiet (fail)
              go_wp2_with fail
              go_roundw
              case rel => exact ⟨i + 1, by go_num, by omega, (by repeat (first | exact HB3.out | exact HE.out | refine bdN ?_ _))⟩
              case measure => first | omega | (simp only [intOf]; omega) | (simp; omega)
          · have hb0 : (er == 0) = false := by simpa using h0
            go_wp2_with fail
            go_quiet (fail)
            go_wp2_with fail
            go_quiet (fail)
            go_wp2_with fail
            go_roundw
            case rel => exact ⟨i + 1, by go_num, by omega, (by repeat (first | exact HB3.out | exact HE.out | refine bdN ?_ _))⟩
            case measure => first | omega | (simp only [intOf]; omega) | (simp; omega)
        · obtain ⟨h0, hy, h2, hf⟩ := HNS.out hAZ
          subst h0
          have e2e : e2 = 0 := by rw [← HE2.out, hy]
          have L2e : L2 = 1 := by rw [← HL2.out, hy]; rfl
          subst e2e L2e
          have HG := HXG.out
          rw [hy] at HG
          obtain ⟨gb, gf, rfl, _, y0, _, _⟩ := HG.at' 0 Nat.zero_lt_one
          have y0 : W.cell? ⟨gb, gf, none⟩ = some (.int .i64 0) := y0
          have hb2 : ((P i).2.1 == 0) = false := by simpa using h2
          have hb3 : ((P i).2.1 != 0) = true := by simpa using h2
          have hs := HSZ.out rfl h2
          have hs2 : ¬ (A' : Int) + (Z' : Int) = 0 := by omega
          have hs3 : ((A' : Int) + (Z' : Int) == 0) = false := by simpa using hs2
          have HC10 : Hid (∀ W', Below W.heap.size W W' → Calls Tryz.prog 10 #[.int .i64 (A' : Nat), .int .i64 (Z' : Nat), .slice x5 lL c5] W' fun e w'' => e = .returned (.bool true) ∧ Below W'.heap.size W' w'') := HCN.out hf
          have HAZ : Hid (¬ (A' = A ∧ Z' = Z)) := hAZ
          clear HG hy hs hf hAZ
          by_cases hA : A' = A
          · have hZ : ¬ Z' = Z := fun q => HAZ.out ⟨hA, q⟩
            subst hA
            simp only [decide_true] at NA
            rw [decide_eq_false (fun q => hZ (by have := (Prod.mk.inj (Prod.mk.inj q).2).1; omega))] at NZ
            clear hZ
            go_quiet (fail)
            go_wp2_with fail
            clear HSZ HNS HG1 HDE HCN HX
            have HN : Hid (Below W.heap.size W (W.drewN nq).drew) := bthen (bdrN W nq) (bdrN W nq).size (bdrew1 _)
            go_region_held3 (fun W' => W'.cell? ⟨N4, 0, none⟩ = some (.slice (some ⟨nb, nf, none⟩) 5 c4) ∧ W'.cell? ⟨nb, nf + 1, none⟩ = some (.int .i64 A') ∧ W'.cell? ⟨nb, nf + 4, none⟩ = some (.int .i64 Z') ∧ W'.cell? ⟨N5, 0, none⟩ = some (.slice x5 lL c5))
              (first | exact HT.out _ HN.out | exact HT.out _ (bdrN W _))
              (first | (go_at_call 10; refine (HC10.out _ (by first | exact HN.out | exact bdrN W _)).mono ?_; rintro e W6 ⟨rfl, hb⟩; have HN : Hid (Below W.heap.size W W6) := (by first | exact bthen HN.out HN.out.size hb | exact bthen (bdrN W _) (bdrN W _).size hb); clear hb))
            obtain ⟨d1, d2, d3, _⟩ := HT.out _ HN.out
            have HE : Hid (Below w2.heap.size w2 W6) := bthen HB3.out HB3.out.size HN.out
            go_wp2_with fail
            go_quiet (fail)
            go_wp2_with fail
            go_roundw
            case rel => exact ⟨i + 1, by go_num, by omega, (by repeat (first | exact HB3.out | exact HE.out | refine bdN ?_ _))⟩
            case measure => first | omega | (simp only [intOf]; omega) | (simp; omega)
          · rw [decide_eq_false (fun q => hA (by have := (Prod.mk.inj (Prod.mk.inj q).2).1; omega))] at NA
            clear hA
            go_quiet (fail)
            go_wp2_with fail
            clear HSZ HNS HG1 HDE HCN HX
            have HN : Hid (Below W.heap.size W (W.drewN nq).drew) := bthen (bdrN W nq) (bdrN W nq).size (bdrew1 _)
            go_region_held3 (fun W' => W'.cell? ⟨N4, 0, none⟩ = some (.slice (some ⟨nb, nf, none⟩) 5 c4) ∧ W'.cell? ⟨nb, nf + 1, none⟩ = some (.int .i64 A') ∧ W'.cell? ⟨nb, nf + 4, none⟩ = some (.int .i64 Z') ∧ W'.cell? ⟨N5, 0, none⟩ = some (.slice x5 lL c5))
              (first | exact HT.out _ HN.out | exact HT.out _ (bdrN W _))
              (first | (go_at_call 10; refine (HC10.out _ (by first | exact HN.out | exact bdrN W _)).mono ?_; rintro e W6 ⟨rfl, hb⟩; have HN : Hid (Below W.heap.size W W6) := (by first | exact bthen HN.out HN.out.size hb | exact bthen (bdrN W _) (bdrN W _).size hb); clear hb))
            obtain ⟨d1, d2, d3, _⟩ := HT.out _ HN.out
            have HE : Hid (Below w2.heap.size w2 W6) := bthen HB3.out HB3.out.size HN.out
            go_wp2_with fail
            go_quiet (fail)
            go_wp2_with fail
            go_roundw
            case rel => exact ⟨i + 1, by go_num, by omega, (by repeat (first | exact HB3.out | exact HE.out | refine bdN ?_ _))⟩
            case measure => first | omega | (simp only [intOf]; omega) | (simp; omega)
    · have e0 : i = n := by omega
      subst e0
      have hlt' : ¬ (i : Int) < (i : Int) := by omega
      go_wp2_with fail
      go_ret
      exact ⟨rfl, bthen HB2.out HB2.out.size HW.out⟩
end Go.Proofs.YtpmmploedkbeoaaGreatDoor

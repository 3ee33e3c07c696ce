/- The walk of TopReads. -/
import Derived.Test.YtpmmploedkbeoaaGreatDoorCg26
namespace Go.Proofs.YtpmmploedkbeoaaGreatDoor
open Go.RowKit

set_option maxRecDepth 20000 in
set_option maxHeartbeats 8000000 in
theorem reads_law {w : World} {ad : Option Addr} {L cp : Nat} {P : Nat → V × V} (hP : Pin w ad L P) (hL : L ≤ cp) (hr : ∀ q, Rng (P q).1) :
    Calls Tryz.prog 5 #[.slice ad L cp] w fun e w' => e = .returned (.bool true) ∧ Below w.heap.size w w' := by
  obtain ⟨n, hn⟩ : ∃ n, min L 120 = n := ⟨_, rfl⟩
  have hn0 : n ≤ 120 ∧ n ≤ L := by omega
  have C7 := script_any (cp := cp) (hP.less hn0.2) hn0.1
  have HP : Hid (Pin w ad n P) := hP.less hn0.2
  have HR : Hid (∀ q, Rng (P q).1) := hr
  have hmin : min (L : Int) 120 = (n : Int) := by omega
  clear hP hr hn
  go_enter Tryz.func5, Tryz.ntmps5
  go_wp2_with fail
  refine C7.mono ?_; rintro e w1 ⟨⟨l, a, c, B, bt, rfl, si⟩⟩
  have CP := play_script si hn0.1 HR.out
  have HB1 : Hid (Below w.heap.size w w1) := si.bl
  generalize l.length = ll at *
  clear C7 si
  go_wp2_with fail
  refine CP.mono ?_; rintro e w2 ⟨⟨R, t0, s0, No, rfl, ini, hT, hrp⟩, hb2⟩
  have HB2 : Hid (Below w.heap.size w w2) := bthen HB1.out HB1.out.size hb2
  have HZ : Hid (∀ i, i < n → ∃ t s, Pz w2 R i t s (P i).1 (P i).2) := fun i hi => ⟨_, _, pz_all hn0.1 HR.out ini hT hrp i hi⟩
  have HL0 : Hid (Rz w2 R 0 [tab1] 0) := (hrp 0 (by omega)).rz
  clear CP ini hT hrp hb2 HB1
  have w1' : IntKind.i64.wrap (5 * (n : Int)) = 5 * (n : Int) := by rw [IntKind.wrap_i64]; omega
  have w2' : IntKind.i64.wrap (1 + 5 * (n : Int)) = 1 + 5 * (n : Int) := by rw [IntKind.wrap_i64]; omega
  go_wp2_with fail
  clear w1' w2'
  go_loopw [5] (fun iv wr => ∃ i : Nat, iv = .int .i64 (i : Nat) ∧ i ≤ n ∧ Hid (Below w2.heap.size w2 wr)) (fun iv _ => n - (intOf iv).toNat)
  case atStart => exact ⟨0, rfl, by omega, Below.refl _ _⟩
  case round =>
    obtain ⟨i, rfl, hi, HW⟩ := hrel
    by_cases hlt : i < n
    · have hlt' : (i : Int) < (n : Int) := by omega
      have wi : IntKind.i64.wrap ((i : Int) + 1) = (i : Int) + 1 := by rw [IntKind.wrap_i64]; omega
      obtain ⟨t, s, z⟩ := HZ.out i hlt
      have z := z.below HW.out
      obtain ⟨x1, c1, r1, v1⟩ := z.z1.ex
      obtain ⟨x3, c3, r3, v3⟩ := z.z3.ex
      obtain ⟨x4, c4, r4, v4⟩ := z.z4.ex
      have HD : Hid (Rd t s (P i).1 (P i).2) := z.rd
      have HV1 : Hid (Vin wr x1 5 (fun i => (stL t).getD i nil)) := v1
      have HV4 : Hid (Vin wr x4 5 (fun j => (stL (t3F t s (P i).1 (P i).2).1).getD j nil)) := v4
      obtain ⟨er, he⟩ : ∃ er, errF t s (P i).1 (P i).2 = er := ⟨_, rfl⟩
      rw [he] at r3
      have r1 : Ro wr R ((1 + 5 * i) * 11) (.slice x1 5 c1) 0 := r1
      have r3 : Ro wr R ((3 + 5 * i) * 11) (.slice x3 0 c3) er := r3
      have r4 : Ro wr R ((4 + 5 * i) * 11) (.slice x4 5 c4) 0 := r4
      have g5 : IntKind.i64.wrap (5 * (i : Int)) = 5 * (i : Int) := by rw [IntKind.wrap_i64]; omega
      have g1 : IntKind.i64.wrap (1 + 5 * (i : Int)) = 1 + 5 * (i : Int) := by rw [IntKind.wrap_i64]; omega
      have g3 : IntKind.i64.wrap (3 + 5 * (i : Int)) = 3 + 5 * (i : Int) := by rw [IntKind.wrap_i64]; omega
      have g4 : IntKind.i64.wrap (4 + 5 * (i : Int)) = 4 + 5 * (i : Int) := by rw [IntKind.wrap_i64]; omega
      have l1 : 1 + 5 * (i : Int) < 1 + 5 * (n : Int) := by omega
      have l3 : 3 + 5 * (i : Int) < 1 + 5 * (n : Int) := by omega
      have l4 : 4 + 5 * (i : Int) < 1 + 5 * (n : Int) := by omega
      have m1 : 0 ≤ 1 + 5 * (i : Int) := by omega
      have m3 : 0 ≤ 3 + 5 * (i : Int) := by omega
      have m4 : 0 ≤ 4 + 5 * (i : Int) := by omega
      have t1 : (1 + 5 * (i : Int)).toNat = 1 + 5 * i := by omega
      have t3 : (3 + 5 * (i : Int)).toNat = 3 + 5 * i := by omega
      have t4 : (4 + 5 * (i : Int)).toNat = 4 + 5 * i := by omega
      have HS : Hid (∀ W, Below wr.heap.size wr W → S3 R ((1 + 5 * i) * 11) ((3 + 5 * i) * 11) ((4 + 5 * i) * 11) (.slice x1 5 c1) (.slice x3 0 c3) (.slice x4 5 c4) 0 er 0 W) := fun W b => ⟨r1.below b, r3.below b, r4.below b⟩
      clear z v1 v3 v4 r1 r3 r4
      go_wp2_with fail
      refine wp_region_held (S := S3 R ((1 + 5 * i) * 11) ((3 + 5 * i) * 11) ((4 + 5 * i) * 11) (.slice x1 5 c1) (.slice x3 0 c3) (.slice x4 5 c4) 0 er 0) (by kernel_rfl) ?_
      have HSd := HS.out _ (bdrew1 wr)
      refine take_d (i := 0) (d := some 42) (v := ?v0) rfl rfl (by kernel_rfl) (by kernel_rfl) (by kernel_rfl) (fun _ _ _ h => h) ?hy0 HSd ?hn0
      case hy0 =>
        refine Or.inl ⟨rfl, ?_⟩
        intro W hSw
        clear hSw
        go_simp
        try (with_reducible rfl)
      simp only [Act.put, List.setIfInBounds_toArray, List.set_cons_zero, List.set_cons_succ]
      refine take_d (i := 1) (d := some 43) (v := ?v1) rfl rfl (by kernel_rfl) (by kernel_rfl) (by kernel_rfl) (fun _ _ _ h => h) ?hy1 HSd ?hn1
      case hy1 =>
        refine Or.inl ⟨rfl, ?_⟩
        intro W hSw
        clear hSw
        go_simp
        try (with_reducible rfl)
      simp only [Act.put, List.setIfInBounds_toArray, List.set_cons_zero, List.set_cons_succ]
      refine take_d (i := 2) (d := some 44) (v := ?v2) rfl rfl (by kernel_rfl) (by kernel_rfl) (by kernel_rfl) (fun _ _ _ h => h) ?hy2 HSd ?hn2
      case hy2 =>
        refine Or.inl ⟨rfl, ?_⟩
        intro W hSw
        clear hSw
        go_simp
        try (with_reducible rfl)
      simp only [Act.put, List.setIfInBounds_toArray, List.set_cons_zero, List.set_cons_succ]
      refine take_d (i := 3) (d := some 45) (v := ?v3) rfl rfl (by kernel_rfl) (by kernel_rfl) (by kernel_rfl) (fun _ _ _ h => h) ?hy3 HSd ?hn3
      case hy3 =>
        refine Or.inl ⟨rfl, ?_⟩
        intro W hSw
        clear hSw
        go_simp
        try (with_reducible rfl)
      simp only [Act.put, List.setIfInBounds_toArray, List.set_cons_zero, List.set_cons_succ]
      refine take_d (i := 4) (d := some 46) (v := ?v4) rfl rfl (by kernel_rfl) (by kernel_rfl) (by kernel_rfl) (fun _ _ _ h => h) ?hy4 HSd ?hn4
      case hy4 =>
        refine Or.inl ⟨rfl, ?_⟩
        intro W hSw
        clear hSw
        go_simp
        try (with_reducible rfl)
      simp only [Act.put, List.setIfInBounds_toArray, List.set_cons_zero, List.set_cons_succ]
      refine take_d (i := 5) (d := some 47) (v := ?v5) rfl rfl (by kernel_rfl) (by kernel_rfl) (by kernel_rfl) (fun _ _ _ h => h) ?hy5 HSd ?hn5
      case hy5 =>
        refine Or.inl ⟨rfl, ?_⟩
        intro W hSw
        obtain ⟨⟨b0, b1, b2, b3, b4, b5, b6, b7, b8, b9, b10, _, _⟩, _, _⟩ := hSw
        go_simp
        try (with_reducible rfl)
      simp only [Act.put, List.setIfInBounds_toArray, List.set_cons_zero, List.set_cons_succ]
      refine take_d (i := 6) (d := some 48) (v := ?v6) rfl rfl (by kernel_rfl) (by kernel_rfl) (by kernel_rfl) (fun _ _ _ h => h) ?hy6 HSd ?hn6
      case hy6 =>
        refine Or.inl ⟨rfl, ?_⟩
        intro W hSw
        clear hSw
        go_simp
        try (with_reducible rfl)
      simp only [Act.put, List.setIfInBounds_toArray, List.set_cons_zero, List.set_cons_succ]
      refine take_d (i := 7) (d := some 49) (v := ?v7) rfl rfl (by kernel_rfl) (by kernel_rfl) (by kernel_rfl) (fun _ _ _ h => h) ?hy7 HSd ?hn7
      case hy7 =>
        refine Or.inl ⟨rfl, ?_⟩
        intro W hSw
        clear hSw
        go_simp
        try (with_reducible rfl)
      simp only [Act.put, List.setIfInBounds_toArray, List.set_cons_zero, List.set_cons_succ]
      refine take_d (i := 8) (d := some 50) (v := ?v8) rfl rfl (by kernel_rfl) (by kernel_rfl) (by kernel_rfl) (fun _ _ _ h => h) ?hy8 HSd ?hn8
      case hy8 =>
        refine Or.inl ⟨rfl, ?_⟩
        intro W hSw
        clear hSw
        go_simp
        try (with_reducible rfl)
      simp only [Act.put, List.setIfInBounds_toArray, List.set_cons_zero, List.set_cons_succ]
      refine take_d (i := 9) (d := some 51) (v := ?v9) rfl rfl (by kernel_rfl) (by kernel_rfl) (by kernel_rfl) (fun _ _ _ h => h) ?hy9 HSd ?hn9
      case hy9 =>
        refine Or.inl ⟨rfl, ?_⟩
        intro W hSw
        clear hSw
        go_simp
        try (with_reducible rfl)
      simp only [Act.put, List.setIfInBounds_toArray, List.set_cons_zero, List.set_cons_succ]
      refine take_d (i := 10) (d := some 52) (v := ?v10) rfl rfl (by kernel_rfl) (by kernel_rfl) (by kernel_rfl) (fun _ _ _ h => h) ?hy10 HSd ?hn10
      case hy10 =>
        refine Or.inl ⟨rfl, ?_⟩
        intro W hSw
        clear hSw
        go_simp
        try (with_reducible rfl)
      simp only [Act.put, List.setIfInBounds_toArray, List.set_cons_zero, List.set_cons_succ]
      refine take_d (i := 11) (d := some 53) (v := ?v11) rfl rfl (by kernel_rfl) (by kernel_rfl) (by kernel_rfl) (fun _ _ _ h => h) ?hy11 HSd ?hn11
      case hy11 =>
        refine Or.inl ⟨rfl, ?_⟩
        intro W hSw
        obtain ⟨_, ⟨b0, b1, b2, b3, b4, b5, b6, b7, b8, b9, b10, _, _⟩, _⟩ := hSw
        go_simp
        try (with_reducible rfl)
      simp only [Act.put, List.setIfInBounds_toArray, List.set_cons_zero, List.set_cons_succ]
      refine take_d (i := 12) (d := some 54) (v := ?v12) rfl rfl (by kernel_rfl) (by kernel_rfl) (by kernel_rfl) (fun _ _ _ h => h) ?hy12 HSd ?hn12
      case hy12 =>
        refine Or.inl ⟨rfl, ?_⟩
        intro W hSw
        clear hSw
        go_simp
        try (with_reducible rfl)
      simp only [Act.put, List.setIfInBounds_toArray, List.set_cons_zero, List.set_cons_succ]
      refine take_d (i := 13) (d := some 55) (v := ?v13) rfl rfl (by kernel_rfl) (by kernel_rfl) (by kernel_rfl) (fun _ _ _ h => h) ?hy13 HSd ?hn13
      case hy13 =>
        refine Or.inl ⟨rfl, ?_⟩
        intro W hSw
        clear hSw
        go_simp
        try (with_reducible rfl)
      simp only [Act.put, List.setIfInBounds_toArray, List.set_cons_zero, List.set_cons_succ]
      refine take_d (i := 14) (d := some 56) (v := ?v14) rfl rfl (by kernel_rfl) (by kernel_rfl) (by kernel_rfl) (fun _ _ _ h => h) ?hy14 HSd ?hn14
      case hy14 =>
        refine Or.inl ⟨rfl, ?_⟩
        intro W hSw
        clear hSw
        go_simp
        try (with_reducible rfl)
      simp only [Act.put, List.setIfInBounds_toArray, List.set_cons_zero, List.set_cons_succ]
      refine take_d (i := 15) (d := some 57) (v := ?v15) rfl rfl (by kernel_rfl) (by kernel_rfl) (by kernel_rfl) (fun _ _ _ h => h) ?hy15 HSd ?hn15
      case hy15 =>
        refine Or.inl ⟨rfl, ?_⟩
        intro W hSw
        clear hSw
        go_simp
        try (with_reducible rfl)
      simp only [Act.put, List.setIfInBounds_toArray, List.set_cons_zero, List.set_cons_succ]
      refine take_d (i := 16) (d := some 58) (v := ?v16) rfl rfl (by kernel_rfl) (by kernel_rfl) (by kernel_rfl) (fun _ _ _ h => h) ?hy16 HSd ?hn16
      case hy16 =>
        refine Or.inl ⟨rfl, ?_⟩
        intro W hSw
        clear hSw
        go_simp
        try (with_reducible rfl)
      simp only [Act.put, List.setIfInBounds_toArray, List.set_cons_zero, List.set_cons_succ]
      refine take_d (i := 17) (d := some 59) (v := ?v17) rfl rfl (by kernel_rfl) (by kernel_rfl) (by kernel_rfl) (fun _ _ _ h => h) ?hy17 HSd ?hn17
      case hy17 =>
        refine Or.inl ⟨rfl, ?_⟩
        intro W hSw
        obtain ⟨_, _, ⟨b0, b1, b2, b3, b4, b5, b6, b7, b8, b9, b10, _, _⟩⟩ := hSw
        go_simp
        try (with_reducible rfl)
      simp only [Act.put, List.setIfInBounds_toArray, List.set_cons_zero, List.set_cons_succ]
      refine wpAnyH_boxes0 (bs := [⟨18, 21, 6, 47, .slice x1 5 c1, 0⟩, ⟨19, 22, 7, 53, .slice x3 0 c3, er⟩, ⟨20, 23, 8, 59, .slice x4 5 c4, 0⟩]) ⟨?hnd, ?hndd, ?hlt, ?hao, ?hso, lo_of (by kernel_rfl), ?hts⟩ rfl (by kernel_rfl) (Nat.le_refl 6) ?hsd ?hva ?hone (fun W b => HS.out W (bdrew_of b)) ?hQ
      case hnd => exact (by decide : List.Nodup [18, 19, 20, 21, 22, 23])
      case hndd => exact (by decide : List.Nodup [6, 7, 8])
      case hlt => exact (by decide : ∀ j ∈ ([18, 19, 20, 21, 22, 23] : List Nat), j < 24)
      case hao =>
        intro b hb; simp only [List.mem_cons, List.not_mem_nil, or_false] at hb; obtain rfl | rfl | rfl := hb
        all_goals exact ⟨_, rfl, rfl, rfl, rfl⟩
      case hso =>
        intro b hb; simp only [List.mem_cons, List.not_mem_nil, or_false] at hb; obtain rfl | rfl | rfl := hb
        · exact ⟨_, rfl, rfl, rfl, rfl, by first | exact ⟨_, List.mem_cons_self .., rfl, rfl⟩ | exact ⟨_, List.mem_cons_of_mem _ (List.mem_cons_self ..), rfl, rfl⟩ | exact ⟨_, List.mem_cons_of_mem _ (List.mem_cons_of_mem _ (List.mem_cons_self ..)), rfl, rfl⟩⟩
        · exact ⟨_, rfl, rfl, rfl, rfl, by first | exact ⟨_, List.mem_cons_self .., rfl, rfl⟩ | exact ⟨_, List.mem_cons_of_mem _ (List.mem_cons_self ..), rfl, rfl⟩ | exact ⟨_, List.mem_cons_of_mem _ (List.mem_cons_of_mem _ (List.mem_cons_self ..)), rfl, rfl⟩⟩
        · exact ⟨_, rfl, rfl, rfl, rfl, by first | exact ⟨_, List.mem_cons_self .., rfl, rfl⟩ | exact ⟨_, List.mem_cons_of_mem _ (List.mem_cons_self ..), rfl, rfl⟩ | exact ⟨_, List.mem_cons_of_mem _ (List.mem_cons_of_mem _ (List.mem_cons_self ..)), rfl, rfl⟩⟩
      case hts =>
        intro b hb; simp only [List.mem_cons, List.not_mem_nil, or_false] at hb; obtain rfl | rfl | rfl := hb
        all_goals (intro c hc; simp only [List.mem_cons, List.not_mem_nil, or_false] at hc; obtain rfl | rfl | rfl := hc <;> (show ¬ _; simp only []; decide))
      case hsd =>
        intro b hb; simp only [List.mem_cons, List.not_mem_nil, or_false] at hb; obtain rfl | rfl | rfl := hb
        all_goals (show (_ : Nat) < _; simp)
      case hva =>
        intro b hb; simp only [List.mem_cons, List.not_mem_nil, or_false] at hb; obtain rfl | rfl | rfl := hb
        all_goals kernel_rfl
      case hone =>
        intro b hb; simp only [List.mem_cons, List.not_mem_nil, or_false] at hb; obtain rfl | rfl | rfl := hb
        all_goals rfl
      case hQ =>
        intro N W hbW hp
        have p1 := (hp _ (List.mem_cons_self ..)).2
        have p2 := (hp _ (List.mem_cons_of_mem _ (List.mem_cons_self ..))).2
        have p3 := (hp _ (List.mem_cons_of_mem _ (List.mem_cons_of_mem _ (List.mem_cons_self ..)))).2
        have hbW : Below wr.heap.size wr W := (bthen (bdrew1 wr) (bdrew1 wr).size hbW : Below wr.heap.size wr W)
        simp only [List.foldl_cons, List.foldl_nil, Act.put, List.setIfInBounds_toArray, List.set_cons_zero, List.set_cons_succ]
        dsimp only at p1 p2 p3
        generalize N 18 = N1 at *
        generalize N 19 = N2 at *
        generalize N 20 = N3 at *
        have HB3 : Hid (Below w2.heap.size w2 W) := bthen HW.out HW.out.size hbW
        obtain ⟨lb, lf, rfl, hlb, _, s1, _, _, s4, _, s13⟩ := stl_cells (HV1.out.below hbW)
        obtain ⟨nb, nf, rfl, hnb, _, _, _, _, _, _, n13⟩ := stl_cells (HV4.out.below hbW)
        obtain ⟨pb, pf, rfl, hpb, q0, q1, q2, _, _, _⟩ := (HP.out.below (bthen HB2.out HB2.out.size HB3.out)).at' i hlt
        have f1 := p1.c0
        have f2 := p2.c1
        have f3 := p3.c0
        have HK : Hid (∀ W', Below W.heap.size W W' → S11 pb (pf + i * 6) N1 lb lf (P i).1 (.slice (some ⟨lb, lf, none⟩) 5 c1) (t.p.n : Nat) (t.p.z : Nat) W') := fun W' b =>
          ⟨by rw [World.cell?_of_block (w := W) (b.block pb hpb)]; exact q0, by rw [World.cell?_of_block (w := W) (b.block pb hpb)]; exact q1, by rw [World.cell?_of_block (w := W) (b.block pb hpb)]; exact q2,
            by rw [World.cell?_of_block (w := W) (b.block N1 p1.lt)]; exact f1, by rw [World.cell?_of_block (w := W) (b.block lb hlb)]; exact s1, by rw [World.cell?_of_block (w := W) (b.block lb hlb)]; exact s4⟩
        have HT : Hid (∀ W', Below W.heap.size W W' → W'.cell? ⟨N1, 0, none⟩ = some (.slice (some ⟨lb, lf, none⟩) 5 c1) ∧ W'.cell? ⟨N3, 0, none⟩ = some (.slice (some ⟨nb, nf, none⟩) 5 c4) ∧ W'.cell? ⟨N2, 1, none⟩ = some (.int .i64 er) ∧ W'.cell? ⟨lb, lf + 13, none⟩ = some (.int .i64 t.pr) ∧ W'.cell? ⟨nb, nf + 13, none⟩ = some (.int .i64 (t3F t s (P i).1 (P i).2).1.pr)) := fun W' b =>
          ⟨by rw [World.cell?_of_block (w := W) (b.block N1 p1.lt)]; exact f1, by rw [World.cell?_of_block (w := W) (b.block N3 p3.lt)]; exact f3, by rw [World.cell?_of_block (w := W) (b.block N2 p2.lt)]; exact f2,
            by rw [World.cell?_of_block (w := W) (b.block lb hlb)]; exact s13, by rw [World.cell?_of_block (w := W) (b.block nb hnb)]; exact n13⟩
        clear p1 p2 p3 s1 s4 s13 n13 q0 q1 q2 f2
        go_wp2_with fail
        refine wp_region_held (S := S11 pb (pf + i * 6) N1 lb lf (P i).1 (.slice (some ⟨lb, lf, none⟩) 5 c1) (t.p.n : Nat) (t.p.z : Nat)) (by kernel_rfl) ?_
        have HSe := HK.out _ (bdrew1 W)
        refine take_d (i := 0) (d := some 70) (v := ?ve0) rfl rfl (by kernel_rfl) (by kernel_rfl) (by kernel_rfl) (fun _ _ _ h => h) ?hye0 HSe ?hne0
        case hye0 =>
          refine Or.inl ⟨rfl, ?_⟩
          intro W hSw
          clear hSw
          go_simp
          try (with_reducible rfl)
        simp only [Act.put, List.setIfInBounds_toArray, List.set_cons_zero, List.set_cons_succ]
        refine take_d (i := 1) (d := some 71) (v := ?ve1) rfl rfl (by kernel_rfl) (by kernel_rfl) (by kernel_rfl) (fun _ _ _ h => h) ?hye1 HSe ?hne1
        case hye1 =>
          refine Or.inl ⟨rfl, ?_⟩
          intro W hSw
          clear hSw
          go_simp
          try (with_reducible rfl)
        simp only [Act.put, List.setIfInBounds_toArray, List.set_cons_zero, List.set_cons_succ]
        refine take_d (i := 2) (d := some 72) (v := ?ve2) rfl rfl (by kernel_rfl) (by kernel_rfl) (by kernel_rfl) (fun _ _ _ h => h) ?hye2 HSe ?hne2
        case hye2 =>
          refine Or.inl ⟨rfl, ?_⟩
          intro W hSw
          clear hSw
          go_simp
          try (with_reducible rfl)
        simp only [Act.put, List.setIfInBounds_toArray, List.set_cons_zero, List.set_cons_succ]
        refine take_d (i := 3) (d := some 73) (v := ?ve3) rfl rfl (by kernel_rfl) (by kernel_rfl) (by kernel_rfl) (fun _ _ _ h => h) ?hye3 HSe ?hne3
        case hye3 =>
          refine Or.inl ⟨rfl, ?_⟩
          intro W hSw
          clear hSw
          go_simp
          try (with_reducible rfl)
        simp only [Act.put, List.setIfInBounds_toArray, List.set_cons_zero, List.set_cons_succ]
        refine take_d (i := 4) (d := some 74) (v := ?ve4) rfl rfl (by kernel_rfl) (by kernel_rfl) (by kernel_rfl) (fun _ _ _ h => h) ?hye4 HSe ?hne4
        case hye4 =>
          refine Or.inl ⟨rfl, ?_⟩
          intro W hSw
          obtain ⟨u0, u1, u2, _, _, _⟩ := hSw
          go_simp
          try (with_reducible rfl)
        simp only [Act.put, List.setIfInBounds_toArray, List.set_cons_zero, List.set_cons_succ]
        refine take_d (i := 5) (d := some 75) (v := ?ve5) rfl rfl (by kernel_rfl) (by kernel_rfl) (by kernel_rfl) (fun _ _ _ h => h) ?hye5 HSe ?hne5
        case hye5 =>
          refine Or.inl ⟨rfl, ?_⟩
          intro W hSw
          clear hSw
          go_simp
          try (with_reducible rfl)
        simp only [Act.put, List.setIfInBounds_toArray, List.set_cons_zero, List.set_cons_succ]
        refine take_d (i := 6) (d := some 76) (v := ?ve6) rfl rfl (by kernel_rfl) (by kernel_rfl) (by kernel_rfl) (fun _ _ _ h => h) ?hye6 HSe ?hne6
        case hye6 =>
          refine Or.inl ⟨rfl, ?_⟩
          intro W hSw
          obtain ⟨_, _, _, u0, _, _⟩ := hSw
          go_simp
          try (with_reducible rfl)
        simp only [Act.put, List.setIfInBounds_toArray, List.set_cons_zero, List.set_cons_succ]
        refine take_d (i := 7) (d := some 77) (v := ?ve7) rfl rfl (by kernel_rfl) (by kernel_rfl) (by kernel_rfl) (fun _ _ _ h => h) ?hye7 HSe ?hne7
        case hye7 =>
          refine Or.inl ⟨rfl, ?_⟩
          intro W hSw
          clear hSw
          go_simp
          try (with_reducible rfl)
        simp only [Act.put, List.setIfInBounds_toArray, List.set_cons_zero, List.set_cons_succ]
        refine take_d (i := 8) (d := some 78) (v := ?ve8) rfl rfl (by kernel_rfl) (by kernel_rfl) (by kernel_rfl) (fun _ _ _ h => h) ?hye8 HSe ?hne8
        case hye8 =>
          refine Or.inl ⟨rfl, ?_⟩
          intro W hSw
          clear hSw
          go_simp
          try (with_reducible rfl)
        simp only [Act.put, List.setIfInBounds_toArray, List.set_cons_zero, List.set_cons_succ]
        refine take_d (i := 9) (d := some 79) (v := ?ve9) rfl rfl (by kernel_rfl) (by kernel_rfl) (by kernel_rfl) (fun _ _ _ h => h) ?hye9 HSe ?hne9
        case hye9 =>
          refine Or.inl ⟨rfl, ?_⟩
          intro W hSw
          obtain ⟨_, _, _, _, u0, _⟩ := hSw
          go_simp
          try (with_reducible rfl)
        simp only [Act.put, List.setIfInBounds_toArray, List.set_cons_zero, List.set_cons_succ]
        refine take_d (i := 10) (d := some 80) (v := ?ve10) rfl rfl (by kernel_rfl) (by kernel_rfl) (by kernel_rfl) (fun _ _ _ h => h) ?hye10 HSe ?hne10
        case hye10 =>
          refine Or.inl ⟨rfl, ?_⟩
          intro W hSw
          clear hSw
          go_simp
          try (with_reducible rfl)
        simp only [Act.put, List.setIfInBounds_toArray, List.set_cons_zero, List.set_cons_succ]
        refine take_d (i := 11) (d := some 81) (v := ?ve11) rfl rfl (by kernel_rfl) (by kernel_rfl) (by kernel_rfl) (fun _ _ _ h => h) ?hye11 HSe ?hne11
        case hye11 =>
          refine Or.inl ⟨rfl, ?_⟩
          intro W hSw
          obtain ⟨_, _, _, u0, _, _⟩ := hSw
          go_simp
          try (with_reducible rfl)
        simp only [Act.put, List.setIfInBounds_toArray, List.set_cons_zero, List.set_cons_succ]
        refine take_d (i := 12) (d := some 82) (v := ?ve12) rfl rfl (by kernel_rfl) (by kernel_rfl) (by kernel_rfl) (fun _ _ _ h => h) ?hye12 HSe ?hne12
        case hye12 =>
          refine Or.inl ⟨rfl, ?_⟩
          intro W hSw
          clear hSw
          go_simp
          try (with_reducible rfl)
        simp only [Act.put, List.setIfInBounds_toArray, List.set_cons_zero, List.set_cons_succ]
        refine take_d (i := 13) (d := some 83) (v := ?ve13) rfl rfl (by kernel_rfl) (by kernel_rfl) (by kernel_rfl) (fun _ _ _ h => h) ?hye13 HSe ?hne13
        case hye13 =>
          refine Or.inl ⟨rfl, ?_⟩
          intro W hSw
          clear hSw
          go_simp
          try (with_reducible rfl)
        simp only [Act.put, List.setIfInBounds_toArray, List.set_cons_zero, List.set_cons_succ]
        refine take_d (i := 14) (d := some 84) (v := ?ve14) rfl rfl (by kernel_rfl) (by kernel_rfl) (by kernel_rfl) (fun _ _ _ h => h) ?hye14 HSe ?hne14
        case hye14 =>
          refine Or.inl ⟨rfl, ?_⟩
          intro W hSw
          obtain ⟨_, _, _, _, _, u0⟩ := hSw
          go_simp
          try (with_reducible rfl)
        simp only [Act.put, List.setIfInBounds_toArray, List.set_cons_zero, List.set_cons_succ]
        refine wpAnyH_vbox (p := 15) (q := 16) (d := 9) (t := 74) (k := (P i).1) rfl rfl rfl rfl rfl rfl rfl rfl (by kernel_rfl) (by kernel_rfl) (by show (_ : Nat) < _; simp) (by decide) rfl (fun W b => HK.out W (bdrew_of b)) ?eQ
        case eQ =>
          intro W5 hb5 k5
          simp only [Act.put, List.setIfInBounds_toArray, List.set_cons_zero, List.set_cons_succ]
          have HSf := HK.out _ (bdrew_of hb5)
          refine take_d (i := 17) (d := some 10) (v := ?vf17) rfl rfl (by kernel_rfl) (by kernel_rfl) (by kernel_rfl) (fun _ _ _ h => h) ?hyf17 HSf ?hnf17
          case hyf17 =>
            refine Or.inl ⟨rfl, ?_⟩
            intro W hSw
            clear hSw
            go_simp
            try (with_reducible rfl)
          simp only [Act.put, List.setIfInBounds_toArray, List.set_cons_zero, List.set_cons_succ]
          refine take_d (i := 18) (d := some 11) (v := ?vf18) rfl rfl (by kernel_rfl) (by kernel_rfl) (by kernel_rfl) (fun _ _ _ h => h) ?hyf18 HSf ?hnf18
          case hyf18 =>
            refine Or.inl ⟨rfl, ?_⟩
            intro W hSw
            clear hSw
            go_simp
            try (with_reducible rfl)
          simp only [Act.put, List.setIfInBounds_toArray, List.set_cons_zero, List.set_cons_succ]
          refine wpAnyH_done (by kernel_rfl) ?_ _
          have hb5 : Below W.heap.size W W5 := (bthen (bdrew1 W) (bdrew1 W).size hb5 : Below W.heap.size W W5)
          have HB5 : Hid (Below w2.heap.size w2 W5) := bthen HB3.out HB3.out.size hb5
          obtain ⟨e1, e3, e2, e4, e5⟩ := HT.out W5 hb5
          obtain ⟨r, z1, z2, z3⟩ := HD.out.reads
          have hde := HD.out.err
          have hzl := HD.out.ti.rt.le
          have hpr := HD.out.p0
          rw [he] at hde
          rw [z1] at e5
          have k0 := k5.c0
          have k1 := k5.c1
          generalize (P i).1 = k at *
          generalize t.pr = pr at *
          generalize hpn : t.p.n = pn at *
          generalize hpz : t.p.z = pz at *
          have wr1 : IntKind.i64.wrap (pr + (r : Int) - pr) = (r : Int) := by rw [IntKind.wrap_i64]; omega
          have wr2 : IntKind.i64.wrap (r : Int) = (r : Int) := by rw [IntKind.wrap_i64]; omega
          clear z1 hpr HT HK HSe HSd HS k5 hb5 hbW hp f1 f3 hpb hlb hnb hpn hpz he HD
          have HZ3 : Hid (k.1 = 2 → 1 ≤ k.2.1 → k.2.1 ≤ (pn : Int) → r = 0) := z3
          have y1 : ¬ (r : Int) < 0 := by omega
          have y2 : ¬ (r : Int) > 2 * (pz : Int) := by omega
          have wz : IntKind.i64.wrap (2 * (pz : Int)) = 2 * (pz : Int) := by rw [IntKind.wrap_i64]; omega
          clear z2 z3
          go_wp2_with fail
          go_quiet (fail)
          rcases hde with rfl | rfl | rfl
          all_goals
            by_cases a1 : k.1 = 2
            · by_cases a2 : 1 ≤ k.2.1
              · by_cases a3 : k.2.1 ≤ (pn : Int)
                · have hr0 : r = 0 := HZ3.out a1 a2 a3
                  subst hr0
                  go_wp2_with fail
                  go_roundw
                  case rel => exact ⟨i + 1, by go_num, by omega, (bthen HB5.out HB5.out.size (bdrN _ _) : Below _ _ _)⟩
                  case measure => first | omega | (simp only [intOf]; omega) | (simp; omega)
                · go_wp2_with fail
                  go_roundw
                  case rel => exact ⟨i + 1, by go_num, by omega, (bthen HB5.out HB5.out.size (bdrN _ _) : Below _ _ _)⟩
                  case measure => first | omega | (simp only [intOf]; omega) | (simp; omega)
              · go_wp2_with fail
                go_roundw
                case rel => exact ⟨i + 1, by go_num, by omega, (bthen HB5.out HB5.out.size (bdrN _ _) : Below _ _ _)⟩
                case measure => first | omega | (simp only [intOf]; omega) | (simp; omega)
            · have hb : (k.1 == 2) = false := by simpa using a1
              go_wp2_with fail
              go_roundw
              case rel => exact ⟨i + 1, by go_num, by omega, (bthen HB5.out HB5.out.size (bdrN _ _) : Below _ _ _)⟩
              case measure => first | omega | (simp only [intOf]; omega) | (simp; omega)
    · have e0 : i = n := by omega
      subst e0
      have hlt' : ¬ (i : Int) < (i : Int) := by omega
      obtain ⟨xx, LL, cc, ee, rl, hl1⟩ : ∃ x L c er, Ro wr R (5 * i * 11) (.slice x L c) er ∧ (i = 0 → L = 1) := by
        by_cases h0 : i = 0
        · subst h0
          obtain ⟨x, c, r1, _⟩ := (HL0.out.below HW.out).ex
          exact ⟨x, 1, c, 0, r1, fun _ => rfl⟩
        · obtain ⟨t, s, z⟩ := HZ.out (i - 1) (by omega)
          obtain ⟨x, c, r1, _⟩ := (z.z5.below HW.out).ex
          rw [show 5 + 5 * (i - 1) = 5 * i by omega] at r1
          exact ⟨x, _, c, 0, r1, fun q => absurd q h0⟩
      obtain ⟨a0, a1, a2, a3, a4, a5, a6, a7, a8, a9, a10, _, _⟩ := rl
      have j1 : IntKind.i64.wrap (1 + 5 * (i : Int) - 1) = 5 * (i : Int) := by rw [IntKind.wrap_i64]; omega
      have j1' : IntKind.i64.wrap (5 * (i : Int)) = 5 * (i : Int) := by rw [IntKind.wrap_i64]; omega
      have j2 : 0 ≤ 5 * (i : Int) := by omega
      have j3 : 5 * (i : Int) < 1 + 5 * (i : Int) := by omega
      have j4 : (5 * (i : Int)).toNat = 5 * i := by omega
      by_cases h0 : i = 0
      · have hL1 := hl1 h0
        subst hL1
        have hg : ¬ (i : Int) > 0 := by omega
        clear hl1 h0
        go_wp2_with fail
        go_ret
        exact ⟨rfl, bthen HB2.out HB2.out.size (bthen HW.out HW.out.size (b1 _ _))⟩
      · have hg : (i : Int) > 0 := by omega
        clear hl1 h0
        go_wp2_with fail
        go_ret
        exact ⟨rfl, bthen HB2.out HB2.out.size (bthen HW.out HW.out.size (b1 _ _))⟩
end Go.Proofs.YtpmmploedkbeoaaGreatDoor

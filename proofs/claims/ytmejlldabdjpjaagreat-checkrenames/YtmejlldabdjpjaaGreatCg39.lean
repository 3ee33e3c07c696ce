/- The walk of CheckRenames. -/
import Derived.Test.YtmejlldabdjpjaaGreatCg38
namespace Go.Proofs.YtmejlldabdjpjaaGreat
open Go.RowKit

set_option maxRecDepth 20000 in
set_option maxHeartbeats 8000000 in
theorem renames_walk (s : ByteArray) (W : World) (hs : s.size ≤ 9223372036854775807) : Calls Tryz.prog 6 #[.string s] W fun e w' => e = .returned (.bool true) ∧ Below W.heap.size W w' := by
  have FX := fixedc_any W
  go_enter Tryz.func6, Tryz.ntmps6
  go_wp2_with fail
  refine FX.mono ?_
  rintro e w1 ⟨rfl, hB1⟩
  have HB1 : Hid (Below W.heap.size W w1) := hB1
  clear FX hB1
  obtain ⟨T, hT, hTs⟩ : ∃ T : ByteArray, (if 3000 < s.size then s.extract 0 3000 else s) = T ∧ T.size ≤ 3000 := ⟨_, rfl, by
    split
    · rw [ByteArray.size_extract]; omega
    · omega⟩
  go_upto_if 15 with fail
  go_cut [0] from 13 to 18 (fun v wx => v = .string T ∧ wx = w1)
  case first =>
    by_cases hbig : 3000 < s.size
    · have h1 : (3000 : Int) < (s.size : Int) := by omega
      rw [if_pos hbig] at hT
      go_wp2_with fail
      go_meet
      exact ⟨rfl, rfl⟩
    · have h1 : ¬ (3000 : Int) < (s.size : Int) := by omega
      rw [if_neg hbig] at hT
      subst hT
      go_wp2_with fail
      go_meet
      exact ⟨rfl, rfl⟩
  case rest =>
    obtain ⟨rfl, rfl⟩ := hcut
    clear hT
    have C1 := Check_any T wc (by omega)
    obtain ⟨R, hR⟩ : ∃ R, chT T.data.toList = R := ⟨_, rfl⟩
    have HRr : Hid (chT T.data.toList = R) := hR
    rw [hR] at C1
    clear hR
    obtain ⟨⟨fs, gl⟩, cd, ct⟩ := R
    unfold ChP at C1
    simp only [] at C1
    go_wp2_with fail
    refine C1.mono ?_
    rintro e w2 ⟨vF, vG, rfl, hRp, hB2⟩
    obtain ⟨aF, cF, rfl, hmF, rF⟩ := fun_row hRp
    obtain ⟨aG, cG, rfl, hmG, rG⟩ := glo_row hRp
    have HP : Hid (Rp w2 (.slice aF fs.length cF) (.slice aG gl.length cG) fs gl) := hRp
    have HB2 : Hid (Below W.heap.size W w2) := bthen HB1.out HB1.out.size hB2
    clear C1 hRp hB2 HB1 rF rG
    by_cases hcd : cd = 0
    · subst hcd
      obtain ⟨FB, hFB⟩ : ∃ FB, fldB (scT T.data.toList).1 = FB := ⟨_, rfl⟩
      have C2 := fields_any T ((w2.alloc (.cells #[.slice aF fs.length cF, .slice aG gl.length cG] 25)).alloc (.cells #[.int .i64 0, .int .i64 ct] 28)) (by omega)
      rw [hFB] at C2
      have HFB : Hid (fldB (scT T.data.toList).1 = FB) := hFB
      clear hFB
      have k2 := b2 w2 (.cells #[.slice aF fs.length cF, .slice aG gl.length cG] 25) (.cells #[.int .i64 0, .int .i64 ct] 28)
      have hX := (Bx.new w2 25 #[.slice aF fs.length cF, .slice aG gl.length cG]).alloc (.cells #[.int .i64 0, .int .i64 ct] 28)
      have HX3 : Hid (Bx w2.heap.size 25 #[.slice aF fs.length cF, .slice aG gl.length cG] ((w2.alloc (.cells #[.slice aF fs.length cF, .slice aG gl.length cG] 25)).alloc (.cells #[.int .i64 0, .int .i64 ct] 28)) ∧ Below W.heap.size W ((w2.alloc (.cells #[.slice aF fs.length cF, .slice aG gl.length cG] 25)).alloc (.cells #[.int .i64 0, .int .i64 ct] 28)) ∧ Rp ((w2.alloc (.cells #[.slice aF fs.length cF, .slice aG gl.length cG] 25)).alloc (.cells #[.int .i64 0, .int .i64 ct] 28)) (.slice aF fs.length cF) (.slice aG gl.length cG) fs gl) := ⟨hX, bthen HB2.out HB2.out.size k2, HP.out.below k2⟩
      clear hX k2 HB2 HP
      go_wp2_with fail
      refine C2.mono ?_
      rintro e w4 ⟨rfl, hb4⟩
      have HX4 : Hid (Bx w2.heap.size 25 #[.slice aF fs.length cF, .slice aG gl.length cG] w4 ∧ Below W.heap.size W w4 ∧ Rp w4 (.slice aF fs.length cF) (.slice aG gl.length cG) fs gl) := ⟨⟨(hb4.block _ HX3.out.1.lt).trans HX3.out.1.blk⟩, bthen HX3.out.2.1 HX3.out.2.1.size hb4, HX3.out.2.2.below hb4⟩
      clear HX3 hb4 C2
      cases FB with
      | true =>
        go_wp2
        go_ret
        exact ⟨rfl, HX4.out.2.1⟩
      | false =>
        have C3 := renamed_any T w4 hTs
        go_wp2_with fail
        refine C3.mono ?_
        rintro e w5 ⟨⟨S, ok, rfl, hok⟩, hb5⟩
        have HX5 : Hid (Bx w2.heap.size 25 #[.slice aF fs.length cF, .slice aG gl.length cG] w5 ∧ Below W.heap.size W w5 ∧ Rp w5 (.slice aF fs.length cF) (.slice aG gl.length cG) fs gl) := ⟨⟨(hb5.block _ HX4.out.1.lt).trans HX4.out.1.blk⟩, bthen HX4.out.2.1 HX4.out.2.1.size hb5, HX4.out.2.2.below hb5⟩
        clear HX4 hb5 C3
        cases ok with
        | false =>
          clear hok
          go_wp2
          go_ret
          exact ⟨rfl, HX5.out.2.1⟩
        | true =>
          obtain ⟨hS, hz⟩ := hok rfl
          have e3 := dl T
          obtain ⟨fs', hch, hfk⟩ := chT_ren T.data.toList (by omega) HRr.out (Tg.of _ hz HFB.out)
          have hSz : S.size ≤ 9000 := by have := rnS_len T.data.toList.length T.data.toList (Nat.le_refl _); rw [← hS, dl S] at this; omega
          have C4 := Check_any S w5 (by omega)
          rw [hS, hch] at C4
          unfold ChP at C4
          simp only [] at C4
          have HFK : Hid (fs'.map fk = fs.map fk) := hfk
          have hlen : fs'.length = fs.length := by have := congrArg List.length hfk; simpa using this
          clear hok hS hz e3 hch hfk HRr HFB
          go_wp2_with fail
          refine C4.mono ?_
          rintro e w6 ⟨vF', vG', rfl, hRp', hB6⟩
          obtain ⟨aF', cF', rfl, _, _⟩ := fun_row hRp'
          obtain ⟨aG', cG', rfl, _, _⟩ := glo_row hRp'
          rw [hlen, List.length_map] at hRp' ⊢
          have k := b2 w6 (.cells #[.slice aF' fs.length cF', .slice aG' gl.length cG'] 25) (.cells #[.int .i64 0, .int .i64 0] 28)
          have hX := (Bx.new w6 25 #[.slice aF' fs.length cF', .slice aG' gl.length cG']).alloc (.cells #[.int .i64 0, .int .i64 0] 28)
          have l6 : w2.heap.size < w6.heap.size := Nat.lt_of_lt_of_le HX5.out.1.lt hB6.size
          have hR : Bx w2.heap.size 25 #[.slice aF fs.length cF, .slice aG gl.length cG] ((w6.alloc (.cells #[.slice aF' fs.length cF', .slice aG' gl.length cG'] 25)).alloc (.cells #[.int .i64 0, .int .i64 0] 28)) := ⟨(k.block _ l6).trans ((hB6.block _ HX5.out.1.lt).trans HX5.out.1.blk)⟩
          have d0 := hR.c 0 _ rfl
          have d1 := hR.c 1 _ rfl
          have HX6 : Hid (∃ V, (w6.alloc (.cells #[.slice aF' fs.length cF', .slice aG' gl.length cG'] 25)).alloc (.cells #[.int .i64 0, .int .i64 0] 28) = V ∧ Bx w2.heap.size 25 #[.slice aF fs.length cF, .slice aG gl.length cG] V ∧ Bx w6.heap.size 25 #[.slice aF' fs.length cF', .slice aG' gl.length cG'] V ∧ Below W.heap.size W V ∧ Rp V (.slice aF fs.length cF) (.slice aG gl.length cG) fs gl ∧ Rp V (.slice aF' fs.length cF') (.slice aG' gl.length cG') fs' (gl.map ren)) := ⟨_, rfl, hR, hX, bthen (bthen HX5.out.2.1 HX5.out.2.1.size hB6) (bthen HX5.out.2.1 HX5.out.2.1.size hB6).size k, (HX5.out.2.2.below hB6).below k, hRp'.below k⟩
          clear k hX l6 hR hB6 hRp' HX5 C4
          obtain ⟨V, hV, rest⟩ := HX6.out
          have HV : Hid ((w6.alloc (.cells #[.slice aF' fs.length cF', .slice aG' gl.length cG'] 25)).alloc (.cells #[.int .i64 0, .int .i64 0] 28) = V) := hV
          have HX7 : Hid (Bx w2.heap.size 25 #[.slice aF fs.length cF, .slice aG gl.length cG] V ∧ Bx w6.heap.size 25 #[.slice aF' fs.length cF', .slice aG' gl.length cG'] V ∧ Below W.heap.size W V ∧ Rp V (.slice aF fs.length cF) (.slice aG gl.length cG) fs gl ∧ Rp V (.slice aF' fs.length cF') (.slice aG' gl.length cG') fs' (gl.map ren)) := rest
          clear hV rest HX6
          go_wp2
          go_loopw [9] (fun iv wx => ∃ k : Nat, iv = .int .i64 (k : Nat) ∧ k ≤ fs.length ∧ Hid (Below V.heap.size V wx)) (fun iv _ => fs.length - (intOf iv).toNat)
          case atStart => exact ⟨0, rfl, by omega, by (show Below _ _ _; rw [HV.out]; exact Below.refl _ _)⟩
          case round =>
            clear HV d0 d1
            obtain ⟨k, rfl, hk, HB⟩ := hrel
            have d0 := (HB.out.cell (p := ⟨w2.heap.size, 0, none⟩) HX7.out.1.lt).trans (HX7.out.1.c 0 _ rfl)
            have d1 := (HB.out.cell (p := ⟨w2.heap.size, 1, none⟩) HX7.out.1.lt).trans (HX7.out.1.c 1 _ rfl)
            by_cases hlt : k < fs.length
            · have h1 : (k : Int) < (fs.length : Int) := by omega
              have wk : IntKind.i64.wrap ((k : Int) + 1) = (k : Int) + 1 := by rw [IntKind.wrap_i64]; omega
              have hms : fs.length - (k + 1) < fs.length - k := by omega
              obtain ⟨f, hf⟩ : ∃ f, fs[k]? = some f := ⟨fs[k]'hlt, List.getElem?_eq_getElem _⟩
              obtain ⟨f', hf', hff⟩ : ∃ f', fs'[k]? = some f' ∧ fk f' = fk f := by
                rcases fs_get HFK.out k with ⟨_, e⟩ | ⟨x, x', e1, e2, e3⟩
                · rw [hf] at e; cases e
                · rw [hf] at e1; injection e1 with e1; subst e1; exact ⟨x', e2, e3⟩
              obtain ⟨e1, e2, e3⟩ := fk_eq hff
              obtain ⟨a1, c1, q1, _, r1⟩ := fun_row HX7.out.2.2.2.1
              obtain ⟨a2, c2, q2, _, r2⟩ := fun_row HX7.out.2.2.2.2
              obtain ⟨g, v, x1, x2, x3, x4, x5, x6⟩ := r1 k f hf
              obtain ⟨g', v', y1, y2, y3, y4, y5, y6⟩ := r2 k f' hf'
              rw [e1] at y3
              rw [e2] at y4
              rw [e3] at y6
              have ea : aF = some ⟨g, 0, none⟩ := by injection q1 with q1; rw [q1, x1]
              have ea' : aF' = some ⟨g', 0, none⟩ := by injection q2 with q2; rw [q2, y1]
              clear q1 q2 r1 r2 x1 y1 hf hf' hff e1 e2 e3
              obtain ⟨Yc, Fw, F1, F2⟩ := class_of V
              have HC : Hid (∃ x, wr.drew = Fw x) := F2 _ HB.out.drew
              haveI : Nonempty Yc := HC.out.elim fun x _ => ⟨x⟩
              have hS : ∀ x, Calls Tryz.prog 21 #[v', v] (Fw x) fun e w'' => e = .returned (.bool true) ∧ ∃ y, w'' = Fw y := fun x => (samev_eq f.cs v' v (Fw x) (own_keep y6 fun g hg => (F1 x).block g (y6.lt g hg).2) (own_keep x6 fun g hg => (F1 x).block g (x6.lt g hg).2)).mono fun e w' ⟨he, hw⟩ => ⟨he, F2 w' ((F1 x).trans (hw.mono (F1 x).size))⟩
              have HF : Hid (∀ x, Below V.heap.size V (Fw x)) := F1
              have z0 := fun x => ((F1 x).cell (p := ⟨w2.heap.size, 0, none⟩) HX7.out.1.lt).trans (HX7.out.1.c 0 _ rfl)
              have z1 := fun x => ((F1 x).cell (p := ⟨w6.heap.size, 0, none⟩) HX7.out.2.1.lt).trans (HX7.out.2.1.c 0 _ rfl)
              have z2 := fun x => ((F1 x).cell (p := ⟨g, k * 5 + 2, none⟩) x2).trans x3
              have z3 := fun x => ((F1 x).cell (p := ⟨g, k * 5 + 3, none⟩) x2).trans x4
              have z4 := fun x => ((F1 x).cell (p := ⟨g, k * 5 + 4, none⟩) x2).trans x5
              have z5 := fun x => ((F1 x).cell (p := ⟨g', k * 5 + 2, none⟩) y2).trans y3
              have z6 := fun x => ((F1 x).cell (p := ⟨g', k * 5 + 3, none⟩) y2).trans y4
              have z7 := fun x => ((F1 x).cell (p := ⟨g', k * 5 + 4, none⟩) y2).trans y5
              obtain ⟨av, cv, hv⟩ := slice_shape x6
              obtain ⟨av', cv', hv'⟩ := slice_shape y6
              subst hv hv' ea ea'
              obtain ⟨P, hP⟩ : ∃ P, f.pa = P := ⟨_, rfl⟩
              obtain ⟨L, hL⟩ : ∃ L, f.sl = L := ⟨_, rfl⟩
              obtain ⟨N, hN⟩ : ∃ N, f.cs.length = N := ⟨_, rfl⟩
              rw [hP] at z2 z5
              rw [hL] at z3 z6
              rw [hN] at z4 z7 hS
              clear F1 F2 x2 x3 x4 x5 x6 y2 y3 y4 y5 y6 hP hL hN HB
              go_wp2_with fail
              refine wp_class (F := Fw) (by kernel_rfl) (by kernel_rfl) HC.out ?_
              repeat (go_big_quiet_step (exact hS _))
              refine wpQuiet_nil ?_
              intro _ hw'
              obtain ⟨x9, rfl⟩ := hw'
              have HJ : Hid (Below V.heap.size V (Fw x9)) := HF.out x9
              clear HC hS HF z0 z1 z2 z3 z4 z5 z6 z7 d0 d1
              go_wp2
              go_roundw
              case rel => exact ⟨k + 1, by go_num, by omega, HJ⟩
              case measure => first | omega | (simp only [intOf]; omega) | (simp; omega)
            · have h1 : ¬ (k : Int) < (fs.length : Int) := by omega
              go_wp2
              go_loopw [10] (fun iv wx => ∃ k : Nat, iv = .int .i64 (k : Nat) ∧ k ≤ gl.length ∧ Hid (Below V.heap.size V wx)) (fun iv _ => gl.length - (intOf iv).toNat)
              case atStart => exact ⟨0, rfl, by omega, HB⟩
              case round =>
                clear HB d0 d1
                obtain ⟨j, rfl, hj, HB⟩ := hrel
                have d1 := (HB.out.cell (p := ⟨w2.heap.size, 1, none⟩) HX7.out.1.lt).trans (HX7.out.1.c 1 _ rfl)
                have d2 := (HB.out.cell (p := ⟨w6.heap.size, 1, none⟩) HX7.out.2.1.lt).trans (HX7.out.2.1.c 1 _ rfl)
                by_cases hlt : j < gl.length
                · have h1 : (j : Int) < (gl.length : Int) := by omega
                  have wk : IntKind.i64.wrap ((j : Int) + 1) = (j : Int) + 1 := by rw [IntKind.wrap_i64]; omega
                  have hms : gl.length - (j + 1) < gl.length - j := by omega
                  obtain ⟨t, ht⟩ : ∃ t, gl[j]? = some t := ⟨gl[j]'hlt, List.getElem?_eq_getElem _⟩
                  have ht' : (gl.map ren)[j]? = some (ren t) := by rw [List.getElem?_map, ht]; rfl
                  obtain ⟨a1, c1, q1, _, r1⟩ := glo_row HX7.out.2.2.2.1
                  obtain ⟨a2, c2, q2, _, r2⟩ := glo_row HX7.out.2.2.2.2
                  obtain ⟨g, x1, x2, x3⟩ := r1 j t ht
                  obtain ⟨g', y1, y2, y3⟩ := r2 j (ren t) ht'
                  have ea : aG = some ⟨g, 0, none⟩ := by injection q1 with q1; rw [q1, x1]
                  have ea' : aG' = some ⟨g', 0, none⟩ := by injection q2 with q2; rw [q2, y1]
                  obtain ⟨Yc, Fw, F1, F2⟩ := class_of V
                  have HC : Hid (∃ x, wr.drew = Fw x) := F2 _ HB.out.drew
                  haveI : Nonempty Yc := HC.out.elim fun x _ => ⟨x⟩
                  have HF : Hid (∀ x, Below V.heap.size V (Fw x)) := F1
                  have z1 := fun x => ((F1 x).cell (p := ⟨g, j, none⟩) x2).trans x3
                  have z2 := fun x => ((F1 x).cell (p := ⟨g', j, none⟩) y2).trans y3
                  have z3 := fun x => ((F1 x).cell (p := ⟨w2.heap.size, 1, none⟩) HX7.out.1.lt).trans (HX7.out.1.c 1 _ rfl)
                  have z4 := fun x => ((F1 x).cell (p := ⟨w6.heap.size, 1, none⟩) HX7.out.2.1.lt).trans (HX7.out.2.1.c 1 _ rfl)
                  clear q1 q2 r1 r2 x1 y1 ht ht' x2 x3 y2 y3 F1 F2 HB
                  subst ea ea'
                  by_cases ta : t = [97]
                  · subst ta
                    have ez : ren [97] = [122, 122, 122] := rfl
                    rw [ez] at z2
                    clear ez
                    go_wp2_with fail
                    refine wp_class (F := Fw) (by kernel_rfl) (by kernel_rfl) HC.out ?_
                    repeat (go_big_quiet_step (fail))
                    refine wpQuiet_nil ?_
                    intro _ hw'
                    obtain ⟨x9, rfl⟩ := hw'
                    have HJ : Hid (Below V.heap.size V (Fw x9)) := HF.out x9
                    clear HC HF z1 z2 z3 z4 d1 d2
                    go_wp2
                    go_roundw
                    case rel => exact ⟨j + 1, by go_num, by omega, HJ⟩
                    case measure => first | omega | (simp only [intOf]; omega) | (simp; omega)
                  · have ez : ren t = t := if_neg ta
                    rw [ez] at z2
                    clear ez
                    obtain ⟨X, hX⟩ : ∃ X : ByteArray, (⟨t.toArray⟩ : ByteArray) = X := ⟨_, rfl⟩
                    have hXt : X.toList = t := by rw [ByteArray.toList_eq, ← hX]
                    have q1 : ¬ X.toList = [97] := by rw [hXt]; exact ta
                    have q3 : (X.toList == [97]) = false := by simpa using q1
                    rw [hX] at z1 z2
                    clear hXt hX ta
                    go_wp2_with fail
                    refine wp_class (F := Fw) (by kernel_rfl) (by kernel_rfl) HC.out ?_
                    repeat (go_big_quiet_step (fail))
                    refine wpQuiet_nil ?_
                    intro _ hw'
                    obtain ⟨x9, rfl⟩ := hw'
                    have HJ : Hid (Below V.heap.size V (Fw x9)) := HF.out x9
                    clear HC HF z1 z2 z3 z4 d1 d2
                    go_wp2
                    go_roundw
                    case rel => exact ⟨j + 1, by go_num, by omega, HJ⟩
                    case measure => first | omega | (simp only [intOf]; omega) | (simp; omega)
                · have h1 : ¬ (j : Int) < (gl.length : Int) := by omega
                  go_wp2
                  go_ret
                  exact ⟨rfl, bthen HX7.out.2.2.1 HX7.out.2.2.1.size HB.out⟩
    · have hcd' : (cd == 0) = false := by simpa using hcd
      go_wp2
      go_ret
      exact ⟨rfl, bthen HB2.out HB2.out.size (b2 w2 _ _)⟩
end Go.Proofs.YtmejlldabdjpjaaGreat

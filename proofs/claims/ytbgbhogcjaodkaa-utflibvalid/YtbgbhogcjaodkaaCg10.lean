/- The walks of the reference's Codes and Step. -/
import Derived.Test.YtbgbhogcjaodkaaCg09
namespace Go.Proofs.Ytbgbhogcjaodkaa
open Go.RowKit

theorem ints_snoc' (l : List Rn) (r : Rn) : ints (l ++ [r]) = ints l ++ [.int .i64 (r.2.2 : Int)] := by simp [ints]
set_option maxRecDepth 100000 in
set_option maxHeartbeats 4000000 in
theorem rcodes_any (s : ByteArray) (i j : Int) (w : World) (hs : s.size ≤ 140737488351232) (h1 : -9223372036854775808 ≤ i) (h2 : i ≤ 9223372036854775807) (h3 : -9223372036854775808 ≤ j) (h4 : j ≤ 9223372036854775807) :
    Calls Try.prog 12 #[.string s, .int .i64 i, .int .i64 j] w fun e w' => ∃ v, e = .returned (.tuple #[v, .int .i64 (cdR s i j).2]) ∧ w'.ownsRow w.heap.size 3 1 v (cdR s i j).1.length (ints (cdR s i j).1) ∧ Below w.heap.size w w' := by
  have D : ∀ x : Int, (x = i ∨ x = j) → ∀ W, Calls Try.prog 28 #[.int .i64 x, .int .i64 s.size] W fun e w' => e = .returned (.int .i64 (mt s.size x)) ∧ w' = W := fun x hx W => means_any s.size x W hs (by omega) (by omega)
  have hmt := mt_le hs h1 h2
  obtain ⟨i0, hi, hz0, hz1, hz2⟩ := info_parts info3
  obtain ⟨R, hR⟩ : ∃ R, cdR s i j = R := ⟨_, rfl⟩
  rw [hR]
  unfold cdR at hR
  generalize mt s.size = M at D hmt hR
  by_cases hE : M i < 1 ∨ (s.size : Int) < M j
  · rw [if_pos hE] at hR
    subst hR
    by_cases hE1 : M i < 1
    · clear hE
      go_enter Try.func12, Try.ntmps12
      go_wp2_with (go_at_call 28; refine (D _ (by simp) _).mono ?_; rintro e w1 ⟨rfl, hw1⟩; subst w1)
      refine bodyPost_ret (v := .tuple #[_, _]) (by simp [results, Try.results12, go_sem]; exact ⟨rfl, rfl⟩) rfl ?_
      exact ⟨_, rfl, World.ownsRow_nil _ _ _ _, Below.refl _ _⟩
    · have hE3 : (s.size : Int) < M j := by omega
      clear hE
      go_enter Try.func12, Try.ntmps12
      go_wp2_with (go_at_call 28; refine (D _ (by simp) _).mono ?_; rintro e w1 ⟨rfl, hw1⟩; subst w1)
      refine bodyPost_ret (v := .tuple #[_, _]) (by simp [results, Try.results12, go_sem]; exact ⟨rfl, rfl⟩) rfl ?_
      exact ⟨_, rfl, World.ownsRow_nil _ _ _ _, Below.refl _ _⟩
  · rw [if_neg hE] at hR
    have hE1 : ¬ M i < 1 := by omega
    have hE3 : ¬ (s.size : Int) < M j := by omega
    obtain ⟨a, ha⟩ : ∃ a : Nat, M i = (a : Int) + 1 := ⟨(M i).toNat - 1, by omega⟩
    rw [ha, show ((a : Int) + 1).toNat - 1 = a by omega] at hR
    have HA : Hid (M i = (a : Int) + 1) := ha
    clear ha
    have hbs : M j ≤ s.size := by omega
    go_enter Try.func12, Try.ntmps12
    go_wp2_with (go_at_call 28; refine (D _ (by simp) _).mono ?_; rintro e w1 ⟨rfl, hw1⟩; subst w1)
    go_loopw [8, 10] (fun av vv wr => ∃ (p : Nat) (done : List Rn), av = .int .i64 ((p : Int) + 1) ∧ wr.ownsRow w.heap.size 3 1 vv done.length (ints done) ∧ done.length ≤ 200 ∧ badOf done < 0 ∧ Hid (bw s a (M j) = done ++ bw s p (M j)) ∧ Hid (Below w.heap.size w wr)) (fun av _ _ => s.size + 2 - (intOf av).toNat)
    case atStart => exact ⟨a, [], by rw [HA.out], World.ownsRow_nil _ _ _ _, by simp, by unfold badOf; simp, rfl, Below.refl _ _⟩
    case round =>
      obtain ⟨p, done, rfl, hrow, hdl, hb0, HB, HW⟩ := hrel
      clear D
      by_cases hp : (p : Int) + 1 ≤ M j
      · have hps : p < s.size := by omega
        have CA := fun W => rat_any s p W hps hs
        unfold RAt at CA
        have CB := fun W => rbad30 (p : Int) (wd s p) (rn s p) W
        rw [bdB_of] at CB
        have hwp := wd_pos s p
        have hwl := wd_le s p hps
        have hrl := rn_le s p
        have w1 : IntKind.i64.wrap ((p : Int) + 1 - 1) = (p : Int) := by rw [IntKind.wrap_i64]; omega
        have w2 : IntKind.i64.wrap ((p : Int) + 1 + (wd s p : Int)) = ((p + wd s p : Nat) : Int) + 1 := by rw [IntKind.wrap_i64]; omega
        have HB2 : Hid (bw s a (M j) = (done ++ [(p, wd s p, rn s p)]) ++ bw s (p + wd s p) (M j)) := by show _ = _; rw [HB.out, bw_at hps hp]; simp
        have hsn := badOf_snoc done (p, wd s p, rn s p) hb0
        rw [show isBad (p, wd s p, rn s p) = bdB s p from isBad_at s ⟨p, hps⟩] at hsn
        have HSN : Hid _ := hsn
        clear hsn
        have HP : Hid (p + wd s p ≤ s.size ∧ 1 ≤ wd s p) := ⟨hwl, hwp⟩
        clear hwl hwp
        have HBL : Hid (∀ wA wB, Below wr.heap.size wr wA → Below (wA.alloc (.cells #[.int .i64 p, .int .i64 (wd s p), .int .i64 (rn s p)] 48)).heap.size (wA.alloc (.cells #[.int .i64 p, .int .i64 (wd s p), .int .i64 (rn s p)] 48)) wB → Below w.heap.size w wB ∧ Below wr.heap.size wr wB) := fun wA wB hbA hbB =>
          ⟨bthen (bthen (bthen HW.out HW.out.size hbA) (Nat.le_trans HW.out.size hbA.size) (b1 _ _)) (by have := HW.out.size; have := hbA.size; simp; omega) hbB, bthen (bthen hbA hbA.size (b1 _ _)) (by have := hbA.size; simp; omega) hbB⟩
        cases hbd : bdB s p with
        | true =>
          rw [hbd] at CB HSN
          have eR : R = ([], 3) := by
            have e2 : badOf (done ++ [(p, wd s p, rn s p)]) = (p : Int) := HSN.out
            rw [← hR]
            unfold cdL
            rw [cdE_bad (l := bw s a (M j)) (p := done ++ [(p, wd s p, rn s p)]) ⟨_, HB2.out.symm⟩ (by rw [e2]; omega) (by simp; omega), if_neg (by omega)]
          subst eR
          clear hR
          generalize wd s p = DD at *
          generalize rn s p = RR at *
          go_wp2_with (first
            | (go_at_call 29; refine (CA _).mono ?_; rintro e wA ⟨rfl, hbA⟩)
            | (go_at_call 30; refine (CB _).mono ?_; rintro e wB ⟨rfl, hbB⟩))
          refine bodyPost_ret (v := .tuple #[_, _]) (by simp [results, Try.results12, go_sem]; exact ⟨rfl, rfl⟩) rfl ?_
          exact ⟨_, rfl, World.ownsRow_nil _ _ _ _, (HBL.out _ _ hbA hbB).1⟩
        | false =>
          rw [hbd] at CB HSN
          have HE2 : Hid (badOf (done ++ [(p, wd s p, rn s p)]) < 0) := by show _ < _; rw [HSN.out]; simp
          clear HSN
          obtain ⟨o, c, rfl⟩ := ownsRow_slice hrow
          by_cases h200 : done.length = 200
          · have eR : R = ([], 14) := by
              rw [← hR]
              unfold cdL
              rw [cdE_big (l := bw s a (M j)) (p := done ++ [(p, wd s p, rn s p)]) ⟨_, HB2.out.symm⟩ HE2.out (by simp; omega), if_neg (by omega)]
            subst eR
            have h200' : ((done.length : Int) == 200) = true := by simp; omega
            clear hR h200 hdl
            generalize wd s p = DD at *
            generalize rn s p = RR at *
            go_wp2_with (first
              | (go_at_call 29; refine (CA _).mono ?_; rintro e wA ⟨rfl, hbA⟩)
              | (go_at_call 30; refine (CB _).mono ?_; rintro e wB ⟨rfl, hbB⟩))
            refine bodyPost_ret (v := .tuple #[_, _]) (by simp [results, Try.results12, go_sem]; exact ⟨rfl, rfl⟩) rfl ?_
            exact ⟨_, rfl, World.ownsRow_nil _ _ _ _, (HBL.out _ _ hbA hbB).1⟩
          · have h200' : ((done.length : Int) == 200) = false := by simp; omega
            have hone : ∀ u ∈ ([.int .i64 (rn s p : Int)] : List Value), u.oneCell' = true := by simp [Value.oneCell']
            have HD : Hid (done.length < 200) := by show _ < _; omega
            have HSI : Hid (ints (done ++ [(p, wd s p, rn s p)]) = ints done ++ [.int .i64 (rn s p : Int)]) := ints_snoc' _ _
            clear hR h200
            generalize wd s p = DD at *
            generalize rn s p = RR at *
            go_wp2_with (first
              | (go_at_call 29; refine (CA _).mono ?_; rintro e wA ⟨rfl, hbA⟩)
              | (go_at_call 30; refine (CB _).mono ?_; rintro e wB ⟨rfl, hbB⟩; have k1 := (cell_new3 hbB).1; have k2 := (cell_new3 hbB).2; have hr1 := own_below hrow (HBL.out _ _ hbA hbB).2; have h6 := new1 wB RR; have hltB : wA.heap.size < wB.heap.size := (by have := hbB.size; simp at this; omega))
              | (at_builtin; refine wpList_append_own _ rfl _ _ 25 rfl w.heap.size 3 i0 (.int .i64 0) 1 8 Try.underlying25 hi hz0 hz1 hz2 rfl (by decide) _ _ _ rfl (hr1.alloc _) ⟨wB.heap.size, 0, none⟩ 1 1 [.int .i64 (RR : Int)] rfl rfl h6 hone (by have := HD.out; unfold maxLen; omega) (by have := HD.out; omega) (by have := HW.out.size; have := (HBL.out _ _ hbA hbB).2.size; simp; omega) ?_; intro v' w3 hown' hgrow _; have k3 := (World.cell?_of_block (hgrow.block wA.heap.size (by simp; omega) (fun h => (by have := (hrow.lt _ h.symm).2; have := hbA.size; omega)))).trans ((alloc_cell hltB k1 (.cells #[.int .i64 (RR : Int)] 3))); have HW3 : Hid (Below w.heap.size w w3) := ((bel_new (HBL.out _ _ hbA hbB).1 _).grown hgrow (by have := (HBL.out _ _ hbA hbB).1.size; simp; omega) (fun k hk => (hr1.lt k hk).1))))
            rw [← HSI.out] at hown'
            go_roundw
            case rel => exact ⟨p + DD, done ++ [(p, DD, RR)], by simp, by simpa using hown', by have := HD.out; simp; omega, HE2.out, HB2, HW3⟩
            case measure => have := HP.out; simp [intOf]; omega
      · have eR : R = (done, 0) := by
          rw [← hR]
          unfold cdL
          rw [HB.out, bw_stop hp, List.append_nil, cdE_ok hb0 hdl, if_pos rfl]
        subst eR
        clear hR
        obtain ⟨o, c, rfl⟩ := ownsRow_slice hrow
        go_wp2
        refine bodyPost_ret (v := .tuple #[_, _]) (by simp [results, Try.results12, go_sem]; exact ⟨rfl, rfl⟩) rfl ?_
        exact ⟨_, rfl, hrow, HW.out⟩
theorem field1 (x y z : Int) (W : World) : (Instr.field 48 (.agg #[.int .i64 x, .int .i64 y, .int .i64 z]) 1).run Try.prog W = .ok (.int .i64 y) W := by kernel_rfl
theorem bq {w W : World} {k : Nat} (h : Below w.heap.size w W) : Below w.heap.size w (W.drewN k) := ⟨h.os, h.tape, h.output, h.size, h.block⟩
set_option maxRecDepth 100000 in
set_option maxHeartbeats 2000000 in
theorem rstep_0 (s : ByteArray) (w : World) (hs : s.size ≤ 140737488351232) :
    Calls Try.prog 20 #[.string s, .int .i64 0] w fun e w' => e = .returned (stV (stR s 0)) ∧ Below w.heap.size w w' := by
  obtain ⟨R, hR⟩ : ∃ R, stR s 0 = R := ⟨_, rfl⟩
  rw [hR]
  have hsz : ¬ (s.size : Int) < 0 := by omega
  obtain ⟨k, hk0⟩ : ∃ k : Nat, k = 0 := ⟨0, rfl⟩
  have hT : 0 ≤ (0 : Int) ∧ (0 : Int) ≤ s.size ∧ nxB s 0 = k := ⟨by omega, by omega, by rw [hk0]; rfl⟩
  subst hk0
  by_cases hk : s.size ≤ 0
  · have eR : R = (0, 0, false, 0) := by rw [← hR]; exact stR_end hT hk
    have hk' : (s.size : Int) = 0 := by omega
    clear hk hsz
    subst eR
    clear hR hT
    go_enter Try.func20, Try.ntmps20
    go_wp2
    refine bodyPost_ret (v := stV (0, 0, false, 0)) (by simp [results, Try.results20, go_sem, stV]) rfl ?_
    exact ⟨rfl, Below.refl _ _⟩
  · have hks : 0 < s.size := by omega
    have hk' : ¬ (s.size : Int) ≤ 0 := by omega
    have hne : ¬ s = ByteArray.empty := fun h => by rw [h] at hks; simp at hks
    have CA : ∀ W, Calls Try.prog 29 #[.string s, .int .i64 0] W fun e w' => e = .returned (.agg #[.int .i64 0, .int .i64 (wd s 0), .int .i64 (rn s 0)]) ∧ Below W.heap.size W w' := fun W => rat_any s 0 W hks hs
    have CB := fun W => rbad30 (0 : Int) (wd s 0) (rn s 0) W
    rw [bdB_of] at CB
    have eR0 := stR_some hT ⟨0, hks⟩ rfl
    rw [hR] at eR0
    unfold resx at eR0
    have hrl := rn_le s 0
    cases hbd : bdB s 0 with
    | true =>
      rw [hbd] at CB eR0
      rw [if_pos rfl] at eR0
      subst eR0
      clear hR hT
      generalize wd s 0 = DD at *
      generalize rn s 0 = RR at *
      go_enter Try.func20, Try.ntmps20
      go_wp2_with (first
        | (go_at_call 29; refine (CA _).mono ?_; rintro e wA ⟨rfl, hbA⟩)
        | (go_at_call 30; refine (CB _).mono ?_; rintro e wB ⟨rfl, hbB⟩))
      refine bodyPost_ret (v := stV (0, 0, false, 3)) (by simp [results, Try.results20, go_sem, stV]) rfl ?_
      exact ⟨rfl, bthen (bthen hbA hbA.size (b1 _ _)) (by have := hbA.size; simp; omega) hbB⟩
    | false =>
      rw [hbd] at CB eR0
      rw [if_neg (by simp)] at eR0
      dsimp only at eR0
      have w5 : IntKind.i64.wrap ((0 : Int) + 1) = 1 := by rw [IntKind.wrap_i64]; omega
      generalize wd s 0 = DD at *
      generalize rn s 0 = RR at *
      subst eR0
      clear hR hT
      go_enter Try.func20, Try.ntmps20
      go_wp2_with (first
        | (go_at_call 29; refine (CA _).mono ?_; rintro e wA ⟨rfl, hbA⟩)
        | (go_at_call 30; refine (CB _).mono ?_; rintro e wB ⟨rfl, hbB⟩; have k2 := (cell_new3 hbB).2))
      go_quiet (fail)
      go_wp2
      refine bodyPost_ret (v := stV (((0 : Nat) : Int) + 1, (RR : Int), true, 0)) (by simp [results, Try.results20, go_sem, stV]) rfl ?_
      first | exact ⟨rfl, bthen (bthen hbA hbA.size (b1 _ _)) (by have := hbA.size; simp; omega) hbB⟩ | exact ⟨rfl, bq (bthen (bthen hbA hbA.size (b1 _ _)) (by have := hbA.size; simp; omega) hbB)⟩
set_option maxRecDepth 100000 in
set_option maxHeartbeats 2000000 in
theorem rstep_p (s : ByteArray) (p : Nat) (hp : p < s.size) (w : World) (hs : s.size ≤ 140737488351232) :
    Calls Try.prog 20 #[.string s, .int .i64 ((p : Int) + 1)] w fun e w' => e = .returned (stV (stR s ((p : Int) + 1))) ∧ Below w.heap.size w w' := by
  obtain ⟨R, hR⟩ : ∃ R, stR s ((p : Int) + 1) = R := ⟨_, rfl⟩
  rw [hR]
  have hsz : ¬ (p : Int) + 1 < 0 := by omega
  have hs2 : ¬ (s.size : Int) < (p : Int) + 1 := by omega
  have hs3 : (0 : Int) < (p : Int) + 1 := by omega
  have hwl := wd_le s p hp
  have CD := fun W => rat_any s p W hp hs
  unfold RAt at CD
  obtain ⟨k, ek⟩ : ∃ k, p + wd s p = k := ⟨_, rfl⟩
  have hT : 0 ≤ (p : Int) + 1 ∧ (p : Int) + 1 ≤ s.size ∧ nxB s ((p : Int) + 1) = k := ⟨by omega, by omega, by unfold nxB; rw [if_pos (by omega), show ((p : Int) + 1 - 1).toNat = p by omega, ek]⟩
  have w1 : IntKind.i64.wrap ((p : Int) + 1 - 1) = (p : Int) := by rw [IntKind.wrap_i64]; omega
  have w2 : IntKind.i64.wrap ((p : Int) + (wd s p : Int)) = (k : Int) := by rw [IntKind.wrap_i64]; omega
  have hrl0 := rn_le s p
  have hF := field1
  have HQ : Hid (Below w.heap.size w w) := Below.refl _ _
  have HEK : Hid (p + wd s p = k) := ek
  have hwd := wd_pos s p
  clear ek
  by_cases hk : s.size ≤ k
  · have eR : R = (0, 0, false, 0) := by rw [← hR]; exact stR_end hT hk
    have hk' : (s.size : Int) ≤ (k : Int) := by omega
    subst eR
    clear hR hT
    go_enter Try.func20, Try.ntmps20
    go_wp2_with (go_at_call 29; refine (CD _).mono ?_; rintro e wD ⟨rfl, hbD⟩)
    refine bodyPost_ret (v := stV (0, 0, false, 0)) (by simp [results, Try.results20, go_sem, stV]) rfl ?_
    exact ⟨rfl, hbD⟩
  · have hks : k < s.size := by omega
    have hk' : ¬ (s.size : Int) ≤ (k : Int) := by omega
    have CX : ∀ q : Nat, (q = p ∨ q = k) → ∀ W, Calls Try.prog 29 #[.string s, .int .i64 q] W fun e w' => e = .returned (.agg #[.int .i64 q, .int .i64 (wd s q), .int .i64 (rn s q)]) ∧ Below W.heap.size W w' := fun q hq W => rat_any s q W (by omega) hs
    clear CD
    have CB := fun W => rbad30 (k : Int) (wd s k) (rn s k) W
    rw [bdB_of] at CB
    have eR0 := stR_some hT ⟨k, hks⟩ rfl
    rw [hR] at eR0
    unfold resx at eR0
    have hrl := rn_le s k
    cases hbd : bdB s k with
    | true =>
      rw [hbd] at CB eR0
      rw [if_pos rfl] at eR0
      subst eR0
      clear hR hT
      go_enter Try.func20, Try.ntmps20
      go_wp2_with (first
        | (go_at_call 29; refine (CX _ (by simp) _).mono ?_; rintro e wA ⟨rfl, hbA⟩; have HQ : Hid (Below w.heap.size w wA) := (bthen HQ.out HQ.out.size hbA))
        | (go_at_call 30; refine (CB _).mono ?_; rintro e wB ⟨rfl, hbB⟩; have HQ : Hid (Below w.heap.size w wB) := (bthen (bthen HQ.out HQ.out.size (b1 _ _)) (by have := HQ.out.size; simp; omega) hbB)))
      refine bodyPost_ret (v := stV (0, 0, false, 3)) (by simp [results, Try.results20, go_sem, stV]) rfl ?_
      first | exact ⟨rfl, HQ.out⟩ | exact ⟨rfl, bq HQ.out⟩
    | false =>
      rw [hbd] at CB eR0
      rw [if_neg (by simp)] at eR0
      dsimp only at eR0
      have w5 : IntKind.i64.wrap ((k : Int) + 1) = (k : Int) + 1 := by rw [IntKind.wrap_i64]; omega
      subst eR0
      clear hR hT
      go_enter Try.func20, Try.ntmps20
      go_wp2_with (first
        | (go_at_call 29; refine (CX _ (by simp) _).mono ?_; rintro e wA ⟨rfl, hbA⟩; have HQ : Hid (Below w.heap.size w wA) := (bthen HQ.out HQ.out.size hbA))
        | (go_at_call 30; refine (CB _).mono ?_; rintro e wB ⟨rfl, hbB⟩; have k2 := (cell_new3 hbB).2; have HQ : Hid (Below w.heap.size w wB) := (bthen (bthen HQ.out HQ.out.size (b1 _ _)) (by have := HQ.out.size; simp; omega) hbB)))
      go_quiet (fail)
      go_wp2
      refine bodyPost_ret (v := stV ((k : Int) + 1, (rn s k : Int), true, 0)) (by simp [results, Try.results20, go_sem, stV]) rfl ?_
      first | exact ⟨rfl, HQ.out⟩ | exact ⟨rfl, bq HQ.out⟩
theorem rstep_any (s : ByteArray) (t : Int) (w : World) (hs : s.size ≤ 140737488351232) :
    Calls Try.prog 20 #[.string s, .int .i64 t] w fun e w' => e = .returned (stV (stR s t)) ∧ Below w.heap.size w w' := by
  by_cases h : t < 0 ∨ (s.size : Int) < t
  · have e : stR s t = (0, 0, false, 1) := by unfold stR; rw [if_pos h]
    rw [e]
    clear e
    by_cases h1 : t < 0
    · clear h
      go_enter Try.func20, Try.ntmps20
      go_wp2
      refine bodyPost_ret (v := stV (0, 0, false, 1)) (by simp [results, Try.results20, go_sem, stV]) rfl ?_
      exact ⟨rfl, Below.refl _ _⟩
    · have h2 : (s.size : Int) < t := by omega
      clear h
      go_enter Try.func20, Try.ntmps20
      go_wp2
      refine bodyPost_ret (v := stV (0, 0, false, 1)) (by simp [results, Try.results20, go_sem, stV]) rfl ?_
      exact ⟨rfl, Below.refl _ _⟩
  · rcases Int.lt_or_le 0 t with a | a
    · have q := rstep_p s (t - 1).toNat (by omega) w hs
      rw [show (((t - 1).toNat : Nat) : Int) + 1 = t by omega] at q
      exact q
    · obtain rfl : t = 0 := by omega
      exact rstep_0 s w hs
end Go.Proofs.Ytbgbhogcjaodkaa

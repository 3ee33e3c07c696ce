/- The walk of the law UtflibValid. -/
import Derived.Test.YtbgbhogcjaodkaaCg18
import Derived.Test.YtbgbhogcjaodkaaCg13
namespace Go.Proofs.Ytbgbhogcjaodkaa
open Go.RowKit

set_option maxRecDepth 100000 in
set_option maxHeartbeats 4000000 in
theorem valid_0 (s : ByteArray) (w : World) (h300 : s.size ≤ 300) (hbd : badOf (rest s 0) < 0) (hg : Good s 0) (_hx : s.size ≤ 300) :
    Calls Try.prog 6 #[.string s] w fun e w' => e = .returned (.bool true) ∧ Below w.heap.size w w' := by
  have C0 := fixed_any
  have h3 : ¬ (300 : Int) < (s.size : Int) := by omega
  have C1 := fun W => rbad_any s W (by omega)
  obtain ⟨Bd, hBd⟩ : ∃ Bd, badOf (rest s 0) = Bd := ⟨_, rfl⟩
  rw [hBd] at C1 hbd
  have hK0 : ¬ (0 : Int) ≤ Bd := by omega
  clear hBd

  have C2 := fun W => count_any s W (by omega)
  have C3 := fun W => list_any s W (by omega)
  have hml := rest_le s
  have HB : Hid (Below w.heap.size w w) := Below.refl _ _
  by_cases hz : s.size = 0
  · obtain rfl : s = ⟨#[]⟩ := by
      cases s with
      | mk d => exact congrArg ByteArray.mk (Array.eq_empty_of_size_eq_zero hz)
    have hL0 : rest (⟨#[]⟩ : ByteArray) 0 = [] := rest_end _ 0 (by decide)
    have L1 : ∀ W, Calls Try.prog 9 #[.string ⟨#[]⟩, .int .i64 1, .int .i64 (-1)] W fun e w' => e = .returned (.tuple #[.int .i64 0, .int .i64 0, .int .i64 0]) ∧ Below W.heap.size W w' := fun W => by
      have q := len_any (⟨#[]⟩ : ByteArray) 1 (-1) W (by decide) (by omega) (by omega) (by omega) (by omega)
      rw [len_all hg, hL0] at q
      exact q
    have L0 : ∀ W, Calls Try.prog 9 #[.string ⟨#[]⟩, .int .i64 1, .int .i64 0] W fun e w' => e = .returned (.tuple #[.int .i64 0, .int .i64 0, .int .i64 0]) ∧ Below W.heap.size W w' := fun W => by
      have q := len_any (⟨#[]⟩ : ByteArray) 1 0 W (by decide) (by omega) (by omega) (by omega) (by omega)
      rw [len_0] at q
      exact q
    have C2' : ∀ W, Calls Try.prog 23 #[.string ⟨#[]⟩] W fun e w' => e = .returned (.int .i64 0) ∧ Below W.heap.size W w' := fun W => by
      have q := C2 W
      rw [hL0] at q
      exact q
    have C3' : ∀ W, Calls Try.prog 22 #[.string ⟨#[]⟩] W fun e w' => ∃ o c, e = .returned (.slice o 0 c) ∧ Below W.heap.size W w' := fun W => by
      refine (C3 W).mono fun e w' hh => ?_
      obtain ⟨v, h1, h2, h3⟩ := hh
      rw [hL0] at h2
      obtain ⟨o, c, rfl⟩ := slice_of h2
      exact ⟨o, c, h1, h3⟩
    have O1 : ∀ W, Calls Try.prog 17 #[.string ⟨#[]⟩, .int .i64 1, .int .i64 1] W fun e w' => e = .returned (.tuple #[.int .i64 1, .bool true, .int .i64 0]) ∧ w' = W := fun W => by
      have q := offset_any (⟨#[]⟩ : ByteArray) 1 1 W (by decide) (by omega) (by omega) (by omega) (by omega)
      have e1 : ofs (⟨#[]⟩ : ByteArray) 1 1 = (1, true, 0) := ofs_fwd hg 0 (Nat.zero_le _)
      rw [e1] at q
      exact q
    have O2 : ∀ W, Calls Try.prog 17 #[.string ⟨#[]⟩, .int .i64 2, .int .i64 1] W fun e w' => e = .returned (.tuple #[.int .i64 0, .bool false, .int .i64 0]) ∧ w' = W := fun W => by
      have q := offset_any (⟨#[]⟩ : ByteArray) 2 1 W (by decide) (by omega) (by omega) (by omega) (by omega)
      have e1 : ofs (⟨#[]⟩ : ByteArray) 2 1 = (0, false, 0) := ofs_beh hg 1 (by rw [hL0]; simp)
      rw [e1] at q
      exact q
    have S1 : ∀ W, Calls Try.prog 19 #[.string ⟨#[]⟩, .int .i64 0] W fun e w' => e = .returned (.tuple #[.int .i64 0, .int .i64 0, .bool false, .int .i64 0]) ∧ Below W.heap.size W w' := fun W => by
      have q := step_any (⟨#[]⟩ : ByteArray) 0 W (by decide)
      have e1 : stR (⟨#[]⟩ : ByteArray) 0 = (0, 0, false, 0) := by
        have z := st_end (x := (⟨#[]⟩ : ByteArray))
        rw [hL0] at z
        exact z
      rw [e1] at q
      exact q
    have C9 : ∀ W, Calls Try.prog 11 #[.string ⟨#[]⟩, .int .i64 1, .int .i64 0] W fun e w' => ∃ o c, e = .returned (.tuple #[.slice o 0 c, .int .i64 0]) ∧ Ints w'.heap.size w' (.slice o 0 c) [] ∧ Below W.heap.size W w' := fun W => by
      refine (codes_any (⟨#[]⟩ : ByteArray) 1 0 W (by decide) (by omega) (by omega) (by omega) (by omega)).mono fun e w' hh => ?_
      obtain ⟨v, h1, h2, h3⟩ := hh
      have z := cdR_good hg
      rw [hL0, if_neg (by simp)] at z
      have z' : cdR (⟨#[]⟩ : ByteArray) 1 0 = ([], 0) := z
      rw [z'] at h1 h2
      obtain ⟨o, c, rfl⟩ := slice_of h2
      exact ⟨o, c, h1, ints_of (l := []) h2, h3⟩
    clear C2 C3 hml hg hL0 hz
    go_enter Try.func6, Try.ntmps6
    go_wp2_with (first
      | (go_at_call 13; refine (C0 _).mono ?_; rintro e w1 ⟨rfl, h1⟩; have HB : Hid (Below w.heap.size w w1) := (bthen HB.out HB.out.size h1))
      | (go_at_call 21; refine (C1 _).mono ?_; rintro e w1 ⟨rfl, h1⟩; have HB : Hid (Below w.heap.size w w1) := (bthen HB.out HB.out.size h1)))
    refine (L1 _).mono ?_
    rintro e wx ⟨rfl, hx1⟩
    have HB : Hid (Below w.heap.size w wx) := bthen HB.out HB.out.size hx1
    go_wp2_with fail
    refine (L0 _).mono ?_
    rintro e wy ⟨rfl, hx2⟩
    have HB : Hid (Below w.heap.size w wy) := bthen HB.out HB.out.size hx2
    go_wp2_with (first
      | (go_at_call 22; refine (C3' _).mono ?_; rintro e wl ⟨o, c, rfl, h1⟩; have HB : Hid (Below w.heap.size w wl) := (bthen HB.out HB.out.size h1))
      | (go_at_call 23; refine (C2' _).mono ?_; rintro e w1 ⟨rfl, h1⟩; have HB : Hid (Below w.heap.size w w1) := (bthen HB.out HB.out.size h1)))
    refine wp_loop_rounds 1 ?_
    rw [rounds_succ]
    go_wp2_with fail
    refine (O1 _).mono ?_
    rintro e wo ⟨rfl, hwo⟩
    subst wo
    go_wp2_with fail
    refine (S1 _).mono ?_
    rintro e ws ⟨rfl, hbs⟩
    have HB : Hid (Below w.heap.size w ws) := bthen HB.out HB.out.size hbs
    go_wp2_with fail
    refine (O2 _).mono ?_
    rintro e wo ⟨rfl, hwo⟩
    subst wo
    go_wp2_with fail
    refine (C9 _).mono ?_
    rintro e wc ⟨oc, cc, rfl, hic, hbc⟩
    have HB : Hid (Below w.heap.size w wc) := bthen HB.out HB.out.size hbc
    have CH := char_any [] _ wc hic (by simp)
    have CH' : Calls Try.prog 15 #[.slice oc 0 cc] wc fun e w' => e = .returned (.tuple #[.string ⟨#[]⟩, .int .i64 0]) ∧ Below wc.heap.size wc w' := CH
    clear CH hic
    go_wp2_with fail
    refine CH'.mono ?_
    rintro e wd' ⟨rfl, hbd'⟩
    go_wp2
    go_ret
    exact ⟨by simp, bthen HB.out HB.out.size hbd'⟩
  · have L1 := fun W => len_any s 1 (-1) W (by omega) (by omega) (by omega) (by omega) (by omega)
    rw [len_all hg] at L1
    have hz' : ¬ s = ByteArray.empty := fun h => by rw [h] at hz; simp at hz
    have HO : Hid (∀ k : Nat, k ≤ (rest s 0).length → ∀ W, Calls Try.prog 17 #[.string s, .int .i64 ((k : Int) + 1), .int .i64 1] W fun e w' => e = .returned (.tuple #[.int .i64 ((pos s k : Int) + 1), .bool true, .int .i64 0]) ∧ w' = W) := fun k hk W => by
      have q := offset_any s ((k : Int) + 1) 1 W (by omega) (by omega) (by omega) (by omega) (by omega)
      rw [ofs_fwd hg k hk, en_pos] at q
      exact q
    have HO2 : Hid (∀ W, Calls Try.prog 17 #[.string s, .int .i64 (((rest s 0).length : Int) + 2), .int .i64 1] W fun e w' => e = .returned (.tuple #[.int .i64 0, .bool false, .int .i64 0]) ∧ w' = W) := fun W => by
      have q := offset_any s ((((rest s 0).length + 1 : Nat) : Int) + 1) 1 W (by omega) (by omega) (by omega) (by omega) (by omega)
      rw [ofs_beh hg _ (by omega), show (((rest s 0).length + 1 : Nat) : Int) + 1 = ((rest s 0).length : Int) + 2 by omega] at q
      exact q
    have HS : Hid (∀ k : Nat, k < (rest s 0).length → ∀ W, Calls Try.prog 19 #[.string s, .int .i64 (atK s k)] W fun e w' => e = .returned (.tuple #[.int .i64 ((pos s k : Int) + 1), .int .i64 (rn s (pos s k)), .bool true, .int .i64 0]) ∧ Below W.heap.size W w') := fun k hk W => by
      have q := step_any s (atK s k) W (by omega)
      rw [st_mid hg hk] at q
      exact q
    have HS2 : Hid (∀ W, Calls Try.prog 19 #[.string s, .int .i64 (atK s (rest s 0).length)] W fun e w' => e = .returned (.tuple #[.int .i64 0, .int .i64 0, .bool false, .int .i64 0]) ∧ Below W.heap.size W w') := fun W => by
      have q := step_any s (atK s (rest s 0).length) W (by omega)
      rw [st_end] at q
      exact q
    have HC : Hid (∀ W, Calls Try.prog 11 #[.string s, .int .i64 1, .int .i64 s.size] W fun e w' => ∃ v, e = .returned (.tuple #[v, .int .i64 (if 200 < (rest s 0).length then 14 else 0)]) ∧ (¬ 200 < (rest s 0).length → Ints w'.heap.size w' v ((rest s 0).map fun r => (r.2.2 : Int))) ∧ Below W.heap.size W w') := fun W => by
      refine (codes_any s 1 s.size W (by omega) (by omega) (by omega) (by omega) (by omega)).mono fun e w' hh => ?_
      obtain ⟨v, h1, h2, h3⟩ := hh
      rw [cdR_good hg] at h1 h2
      refine ⟨v, ?_, fun h => ?_, h3⟩
      · rw [h1]; split <;> rfl
      · rw [if_neg h] at h2; exact ints_of h2
    have HH : Hid (chF [] ((rest s 0).map fun r => (r.2.2 : Int)) = (s, 0)) := chF_good (x := s) (by omega) _ 0 rfl (Nat.zero_le _) hg
    have HG : Hid (∀ k (hk : k < (rest s 0).length), (rest s 0)[k].1 = pos s k ∧ (rest s 0)[k].2.2 = rn s (pos s k) ∧ pos s k < s.size) := fun k hk => by
      have q := get_pos s k hk
      exact ⟨by rw [q], by rw [q], pos_lt s k hk⟩
    have HE : Hid (pos s (rest s 0).length = s.size) := pos_end s _ (Nat.le_refl _)
    have HA : Hid (∀ k, atK s (k + 1) = (pos s k : Int) + 1) := fun k => rfl
    have hA0 : atK s 0 = 0 := rfl
    have HCL := cells_get (rest s 0)
    obtain ⟨L, hL⟩ : ∃ L, rest s 0 = L := ⟨_, rfl⟩
    have hg0 := hg
    rw [hL] at C2 C3 L1 HO HO2 HS HS2 HC HH HG HE HCL hml
    have w8 : IntKind.i64.wrap ((s.size : Int) + 1) = (s.size : Int) + 1 := wrap_small (by omega) (by omega)
    clear hL hg hg0
    obtain ⟨n, hn⟩ : ∃ n, L.length = n := ⟨_, rfl⟩
    have HLn : Hid (L.length = n) := hn
    rw [hn] at C2 C3 L1 HO HO2 HS HS2 HC HE hml
    clear hn
    go_enter Try.func6, Try.ntmps6
    go_wp2_with (first
      | (go_at_call 13; refine (C0 _).mono ?_; rintro e w1 ⟨rfl, h1⟩; have HB : Hid (Below w.heap.size w w1) := (bthen HB.out HB.out.size h1))
      | (go_at_call 21; refine (C1 _).mono ?_; rintro e w1 ⟨rfl, h1⟩; have HB : Hid (Below w.heap.size w w1) := (bthen HB.out HB.out.size h1)))
    refine (L1 _).mono ?_
    rintro e wx ⟨rfl, hx1⟩
    have HB : Hid (Below w.heap.size w wx) := bthen HB.out HB.out.size hx1
    clear L1
    go_wp2_with (first
      | (go_at_call 22; refine (C3 _).mono ?_; rintro e wl ⟨v, rfl, hrow, h1⟩; have HB : Hid (Below w.heap.size w wl) := (bthen HB.out HB.out.size h1); have HBl : Hid (Below wl.heap.size wl wl) := Below.refl _ _; obtain ⟨o, cp, rfl⟩ := slice_of hrow)
      | (go_at_call 23; refine (C2 _).mono ?_; rintro e w1 ⟨rfl, h1⟩; have HBl : Hid (Below wl.heap.size wl w1) := (bthen HBl.out HBl.out.size h1)))
    go_loopw [8, 9] (fun av kv wr => ∃ k : Nat, kv = .int .i64 (k : Nat) ∧ av = .int .i64 (atK s k) ∧ k ≤ n ∧ Hid (Below wl.heap.size wl wr)) (fun _ kv _ => n + 1 - (intOf kv).toNat)
    case atStart => exact ⟨0, by first | rfl | simp, by first | rfl | rw [hA0] | simp [hA0], by omega, HBl⟩
    case round =>
      obtain ⟨k, rfl, rfl, hk, HR⟩ := hrel
      clear C0 C1 C2 C3 hA0 hx1 HBl
      have hkn : (k : Int) ≤ (n : Int) := by omega
      have w1 : IntKind.i64.wrap ((k : Int) + 1) = (k : Int) + 1 := wrap_small (by omega) (by omega)
      have O1 := HO.out k hk
      by_cases hlt : k < n
      · have hltl : k < L.length := by rw [HLn.out]; exact hlt
        have S1 := HS.out k hlt
        obtain ⟨g1, g2, g3⟩ := HG.out k hltl
        obtain ⟨q1, q2, q3⟩ := HCL k hltl
        rw [g1] at q1
        rw [g2] at q3
        obtain ⟨g, cap, hv, hg1, hg2, hcap, hcell⟩ := row_cells hrow (by omega)
        simp only [Value.slice.injEq] at hv
        obtain ⟨rfl, _, rfl⟩ := hv
        have d1 := hcell _ _ q1
        have d3 := hcell _ _ q3
        have HD : Hid (∀ W, Below wl.heap.size wl W → W.cell? ⟨g, k * 3, none⟩ = some (.int .i64 (pos s k)) ∧ W.cell? ⟨g, k * 3 + 2, none⟩ = some (.int .i64 (rn s (pos s k)))) := fun W hb => ⟨(hb.cell (p := ⟨g, k * 3, none⟩) hg2).trans d1, (hb.cell (p := ⟨g, k * 3 + 2, none⟩) hg2).trans d3⟩
        have w2 : IntKind.i64.wrap ((pos s k : Int) + 1) = (pos s k : Int) + 1 := wrap_small (by omega) (by omega)
        have hkn2 : (k : Int) < (n : Int) := by omega
        have hkn3 : ((k : Int) == (n : Int)) = false := by simp; omega
        have HA2 := HA.out k
        have H2 : Hid (n ≤ s.size) := hml
        clear HO HO2 HS HS2 HC HH HG HE HA HCL q1 q2 q3 d1 d3 hcell g1 g2 hrow hml
        have HA3 : Hid (atK s (k + 1) = (pos s k : Int) + 1) := HA2
        clear HA2
        generalize pos s k = p at *
        generalize rn s p = rr at *
        generalize atK s k = ak at *
        go_wp2_with fail
        refine (O1 _).mono ?_
        rintro e wo ⟨rfl, hwo⟩
        subst wo
        go_wp2_with fail
        refine (S1 _).mono ?_
        rintro e ws ⟨rfl, hbs⟩
        have HR2 : Hid (Below wl.heap.size wl ws) := bthen HR.out HR.out.size hbs
        obtain ⟨d1, d3⟩ := HD.out ws HR2.out
        go_wp2
        go_roundw
        case rel => exact ⟨k + 1, by go_num, by rw [HA3.out], by omega, HR2⟩
        case measure => simp [intOf]; omega
      · obtain rfl : k = n := by omega
        have S1 := HS2.out
        have O2 := HO2.out
        have C9 := HC.out
        have hpe := HE.out
        rw [hpe] at O1
        have w2 : IntKind.i64.wrap ((k : Int) + 2) = (k : Int) + 2 := wrap_small (by omega) (by omega)
        clear HO HO2 HS HS2 HC HG HE HA HCL hrow hpe
        generalize atK s k = ak at *
        go_wp2_with fail
        refine (O1 _).mono ?_
        rintro e wo ⟨rfl, hwo⟩
        subst wo
        go_wp2_with fail
        refine (S1 _).mono ?_
        rintro e ws ⟨rfl, hbs⟩
        have HR2 : Hid (Below wl.heap.size wl ws) := bthen HR.out HR.out.size hbs
        go_wp2_with fail
        refine (O2 _).mono ?_
        rintro e wo ⟨rfl, hwo⟩
        subst wo
        by_cases h200 : 200 < k
        · have h200' : (200 : Int) < (k : Int) := by omega
          rw [if_pos h200] at C9
          go_wp2_with fail
          refine (C9 _).mono ?_
          rintro e wc ⟨vc, rfl, _, hbc⟩
          have HR3 : Hid (Below wl.heap.size wl wc) := bthen HR2.out HR2.out.size hbc
          go_wp2
          go_ret
          exact ⟨rfl, bthen HB.out HB.out.size HR3.out⟩
        · have h200' : ¬ (200 : Int) < (k : Int) := by omega
          rw [if_neg h200] at C9
          go_wp2_with fail
          refine (C9 _).mono ?_
          rintro e wc ⟨vc, rfl, hic, hbc⟩
          have HR3 : Hid (Below wl.heap.size wl wc) := bthen HR2.out HR2.out.size hbc
          have CH := char_any _ vc wc (hic h200) (by rw [List.length_map, HLn.out]; omega)
          rw [HH.out] at CH
          clear hic
          go_wp2_with fail
          refine CH.mono ?_
          rintro e wd' ⟨rfl, hbd'⟩
          go_wp2
          go_ret
          exact ⟨by simp, bthen HB.out HB.out.size (bthen HR3.out HR3.out.size hbd')⟩
set_option maxRecDepth 100000 in
set_option maxHeartbeats 4000000 in
theorem valid_1 (s : ByteArray) (w : World) (h300 : s.size ≤ 300) (K : Nat) (hK : badOf (rest s 0) = (K : Int)) (hg : Good (s.extract 0 K) 0) (hx : (s.extract 0 K).size ≤ 300) :
    Calls Try.prog 6 #[.string s] w fun e w' => e = .returned (.bool true) ∧ Below w.heap.size w w' := by
  have C0 := fixed_any
  have h3 : ¬ (300 : Int) < (s.size : Int) := by omega
  have C1 := fun W => rbad_any s W (by omega)
  rw [hK] at C1
  have hKs : (K : Int) ≤ (s.size : Int) := by have := (good_cut hK).2; omega
  have hK0 : (0 : Int) ≤ (K : Int) := by omega
  obtain ⟨x, hxe⟩ : ∃ x, s.extract 0 K = x := ⟨_, rfl⟩
  rw [hxe] at hg hx
  have C2 := fun W => count_any x W (by omega)
  have C3 := fun W => list_any x W (by omega)
  have hml := rest_le x
  have HB : Hid (Below w.heap.size w w) := Below.refl _ _
  by_cases hz : x.size = 0
  · obtain rfl : x = ⟨#[]⟩ := by
      cases x with
      | mk d => exact congrArg ByteArray.mk (Array.eq_empty_of_size_eq_zero hz)
    have hL0 : rest (⟨#[]⟩ : ByteArray) 0 = [] := rest_end _ 0 (by decide)
    have L1 : ∀ W, Calls Try.prog 9 #[.string ⟨#[]⟩, .int .i64 1, .int .i64 (-1)] W fun e w' => e = .returned (.tuple #[.int .i64 0, .int .i64 0, .int .i64 0]) ∧ Below W.heap.size W w' := fun W => by
      have q := len_any (⟨#[]⟩ : ByteArray) 1 (-1) W (by decide) (by omega) (by omega) (by omega) (by omega)
      rw [len_all hg, hL0] at q
      exact q
    have L0 : ∀ W, Calls Try.prog 9 #[.string ⟨#[]⟩, .int .i64 1, .int .i64 0] W fun e w' => e = .returned (.tuple #[.int .i64 0, .int .i64 0, .int .i64 0]) ∧ Below W.heap.size W w' := fun W => by
      have q := len_any (⟨#[]⟩ : ByteArray) 1 0 W (by decide) (by omega) (by omega) (by omega) (by omega)
      rw [len_0] at q
      exact q
    have C2' : ∀ W, Calls Try.prog 23 #[.string ⟨#[]⟩] W fun e w' => e = .returned (.int .i64 0) ∧ Below W.heap.size W w' := fun W => by
      have q := C2 W
      rw [hL0] at q
      exact q
    have C3' : ∀ W, Calls Try.prog 22 #[.string ⟨#[]⟩] W fun e w' => ∃ o c, e = .returned (.slice o 0 c) ∧ Below W.heap.size W w' := fun W => by
      refine (C3 W).mono fun e w' hh => ?_
      obtain ⟨v, h1, h2, h3⟩ := hh
      rw [hL0] at h2
      obtain ⟨o, c, rfl⟩ := slice_of h2
      exact ⟨o, c, h1, h3⟩
    have O1 : ∀ W, Calls Try.prog 17 #[.string ⟨#[]⟩, .int .i64 1, .int .i64 1] W fun e w' => e = .returned (.tuple #[.int .i64 1, .bool true, .int .i64 0]) ∧ w' = W := fun W => by
      have q := offset_any (⟨#[]⟩ : ByteArray) 1 1 W (by decide) (by omega) (by omega) (by omega) (by omega)
      have e1 : ofs (⟨#[]⟩ : ByteArray) 1 1 = (1, true, 0) := ofs_fwd hg 0 (Nat.zero_le _)
      rw [e1] at q
      exact q
    have O2 : ∀ W, Calls Try.prog 17 #[.string ⟨#[]⟩, .int .i64 2, .int .i64 1] W fun e w' => e = .returned (.tuple #[.int .i64 0, .bool false, .int .i64 0]) ∧ w' = W := fun W => by
      have q := offset_any (⟨#[]⟩ : ByteArray) 2 1 W (by decide) (by omega) (by omega) (by omega) (by omega)
      have e1 : ofs (⟨#[]⟩ : ByteArray) 2 1 = (0, false, 0) := ofs_beh hg 1 (by rw [hL0]; simp)
      rw [e1] at q
      exact q
    have S1 : ∀ W, Calls Try.prog 19 #[.string ⟨#[]⟩, .int .i64 0] W fun e w' => e = .returned (.tuple #[.int .i64 0, .int .i64 0, .bool false, .int .i64 0]) ∧ Below W.heap.size W w' := fun W => by
      have q := step_any (⟨#[]⟩ : ByteArray) 0 W (by decide)
      have e1 : stR (⟨#[]⟩ : ByteArray) 0 = (0, 0, false, 0) := by
        have z := st_end (x := (⟨#[]⟩ : ByteArray))
        rw [hL0] at z
        exact z
      rw [e1] at q
      exact q
    have C9 : ∀ W, Calls Try.prog 11 #[.string ⟨#[]⟩, .int .i64 1, .int .i64 0] W fun e w' => ∃ o c, e = .returned (.tuple #[.slice o 0 c, .int .i64 0]) ∧ Ints w'.heap.size w' (.slice o 0 c) [] ∧ Below W.heap.size W w' := fun W => by
      refine (codes_any (⟨#[]⟩ : ByteArray) 1 0 W (by decide) (by omega) (by omega) (by omega) (by omega)).mono fun e w' hh => ?_
      obtain ⟨v, h1, h2, h3⟩ := hh
      have z := cdR_good hg
      rw [hL0, if_neg (by simp)] at z
      have z' : cdR (⟨#[]⟩ : ByteArray) 1 0 = ([], 0) := z
      rw [z'] at h1 h2
      obtain ⟨o, c, rfl⟩ := slice_of h2
      exact ⟨o, c, h1, ints_of (l := []) h2, h3⟩
    clear C2 C3 hml hg hL0 hz
    go_enter Try.func6, Try.ntmps6
    go_wp2_with (first
      | (go_at_call 13; refine (C0 _).mono ?_; rintro e w1 ⟨rfl, h1⟩; have HB : Hid (Below w.heap.size w w1) := (bthen HB.out HB.out.size h1))
      | (go_at_call 21; refine (C1 _).mono ?_; rintro e w1 ⟨rfl, h1⟩; have HB : Hid (Below w.heap.size w w1) := (bthen HB.out HB.out.size h1)))
    refine (L1 _).mono ?_
    rintro e wx ⟨rfl, hx1⟩
    have HB : Hid (Below w.heap.size w wx) := bthen HB.out HB.out.size hx1
    go_wp2_with fail
    refine (L0 _).mono ?_
    rintro e wy ⟨rfl, hx2⟩
    have HB : Hid (Below w.heap.size w wy) := bthen HB.out HB.out.size hx2
    go_wp2_with (first
      | (go_at_call 22; refine (C3' _).mono ?_; rintro e wl ⟨o, c, rfl, h1⟩; have HB : Hid (Below w.heap.size w wl) := (bthen HB.out HB.out.size h1))
      | (go_at_call 23; refine (C2' _).mono ?_; rintro e w1 ⟨rfl, h1⟩; have HB : Hid (Below w.heap.size w w1) := (bthen HB.out HB.out.size h1)))
    refine wp_loop_rounds 1 ?_
    rw [rounds_succ]
    go_wp2_with fail
    refine (O1 _).mono ?_
    rintro e wo ⟨rfl, hwo⟩
    subst wo
    go_wp2_with fail
    refine (S1 _).mono ?_
    rintro e ws ⟨rfl, hbs⟩
    have HB : Hid (Below w.heap.size w ws) := bthen HB.out HB.out.size hbs
    go_wp2_with fail
    refine (O2 _).mono ?_
    rintro e wo ⟨rfl, hwo⟩
    subst wo
    go_wp2_with fail
    refine (C9 _).mono ?_
    rintro e wc ⟨oc, cc, rfl, hic, hbc⟩
    have HB : Hid (Below w.heap.size w wc) := bthen HB.out HB.out.size hbc
    have CH := char_any [] _ wc hic (by simp)
    have CH' : Calls Try.prog 15 #[.slice oc 0 cc] wc fun e w' => e = .returned (.tuple #[.string ⟨#[]⟩, .int .i64 0]) ∧ Below wc.heap.size wc w' := CH
    clear CH hic
    go_wp2_with fail
    refine CH'.mono ?_
    rintro e wd' ⟨rfl, hbd'⟩
    go_wp2
    go_ret
    exact ⟨by simp, bthen HB.out HB.out.size hbd'⟩
  · have L1 := fun W => len_any x 1 (-1) W (by omega) (by omega) (by omega) (by omega) (by omega)
    rw [len_all hg] at L1
    have hz' : ¬ x = ByteArray.empty := fun h => by rw [h] at hz; simp at hz
    have HO : Hid (∀ k : Nat, k ≤ (rest x 0).length → ∀ W, Calls Try.prog 17 #[.string x, .int .i64 ((k : Int) + 1), .int .i64 1] W fun e w' => e = .returned (.tuple #[.int .i64 ((pos x k : Int) + 1), .bool true, .int .i64 0]) ∧ w' = W) := fun k hk W => by
      have q := offset_any x ((k : Int) + 1) 1 W (by omega) (by omega) (by omega) (by omega) (by omega)
      rw [ofs_fwd hg k hk, en_pos] at q
      exact q
    have HO2 : Hid (∀ W, Calls Try.prog 17 #[.string x, .int .i64 (((rest x 0).length : Int) + 2), .int .i64 1] W fun e w' => e = .returned (.tuple #[.int .i64 0, .bool false, .int .i64 0]) ∧ w' = W) := fun W => by
      have q := offset_any x ((((rest x 0).length + 1 : Nat) : Int) + 1) 1 W (by omega) (by omega) (by omega) (by omega) (by omega)
      rw [ofs_beh hg _ (by omega), show (((rest x 0).length + 1 : Nat) : Int) + 1 = ((rest x 0).length : Int) + 2 by omega] at q
      exact q
    have HS : Hid (∀ k : Nat, k < (rest x 0).length → ∀ W, Calls Try.prog 19 #[.string x, .int .i64 (atK x k)] W fun e w' => e = .returned (.tuple #[.int .i64 ((pos x k : Int) + 1), .int .i64 (rn x (pos x k)), .bool true, .int .i64 0]) ∧ Below W.heap.size W w') := fun k hk W => by
      have q := step_any x (atK x k) W (by omega)
      rw [st_mid hg hk] at q
      exact q
    have HS2 : Hid (∀ W, Calls Try.prog 19 #[.string x, .int .i64 (atK x (rest x 0).length)] W fun e w' => e = .returned (.tuple #[.int .i64 0, .int .i64 0, .bool false, .int .i64 0]) ∧ Below W.heap.size W w') := fun W => by
      have q := step_any x (atK x (rest x 0).length) W (by omega)
      rw [st_end] at q
      exact q
    have HC : Hid (∀ W, Calls Try.prog 11 #[.string x, .int .i64 1, .int .i64 x.size] W fun e w' => ∃ v, e = .returned (.tuple #[v, .int .i64 (if 200 < (rest x 0).length then 14 else 0)]) ∧ (¬ 200 < (rest x 0).length → Ints w'.heap.size w' v ((rest x 0).map fun r => (r.2.2 : Int))) ∧ Below W.heap.size W w') := fun W => by
      refine (codes_any x 1 x.size W (by omega) (by omega) (by omega) (by omega) (by omega)).mono fun e w' hh => ?_
      obtain ⟨v, h1, h2, h3⟩ := hh
      rw [cdR_good hg] at h1 h2
      refine ⟨v, ?_, fun h => ?_, h3⟩
      · rw [h1]; split <;> rfl
      · rw [if_neg h] at h2; exact ints_of h2
    have HH : Hid (chF [] ((rest x 0).map fun r => (r.2.2 : Int)) = (x, 0)) := chF_good (x := x) (by omega) _ 0 rfl (Nat.zero_le _) hg
    have HG : Hid (∀ k (hk : k < (rest x 0).length), (rest x 0)[k].1 = pos x k ∧ (rest x 0)[k].2.2 = rn x (pos x k) ∧ pos x k < x.size) := fun k hk => by
      have q := get_pos x k hk
      exact ⟨by rw [q], by rw [q], pos_lt x k hk⟩
    have HE : Hid (pos x (rest x 0).length = x.size) := pos_end x _ (Nat.le_refl _)
    have HA : Hid (∀ k, atK x (k + 1) = (pos x k : Int) + 1) := fun k => rfl
    have hA0 : atK x 0 = 0 := rfl
    have HCL := cells_get (rest x 0)
    obtain ⟨L, hL⟩ : ∃ L, rest x 0 = L := ⟨_, rfl⟩
    have hg0 := hg
    rw [hL] at C2 C3 L1 HO HO2 HS HS2 HC HH HG HE HCL hml
    have w8 : IntKind.i64.wrap ((x.size : Int) + 1) = (x.size : Int) + 1 := wrap_small (by omega) (by omega)
    clear hL hg hg0
    obtain ⟨n, hn⟩ : ∃ n, L.length = n := ⟨_, rfl⟩
    have HLn : Hid (L.length = n) := hn
    rw [hn] at C2 C3 L1 HO HO2 HS HS2 HC HE hml
    clear hn
    go_enter Try.func6, Try.ntmps6
    go_wp2_with (first
      | (go_at_call 13; refine (C0 _).mono ?_; rintro e w1 ⟨rfl, h1⟩; have HB : Hid (Below w.heap.size w w1) := (bthen HB.out HB.out.size h1))
      | (go_at_call 21; refine (C1 _).mono ?_; rintro e w1 ⟨rfl, h1⟩; have HB : Hid (Below w.heap.size w w1) := (bthen HB.out HB.out.size h1)))
    refine (L1 _).mono ?_
    rintro e wx ⟨rfl, hx1⟩
    have HB : Hid (Below w.heap.size w wx) := bthen HB.out HB.out.size hx1
    clear L1
    go_wp2_with (first
      | (go_at_call 22; refine (C3 _).mono ?_; rintro e wl ⟨v, rfl, hrow, h1⟩; have HB : Hid (Below w.heap.size w wl) := (bthen HB.out HB.out.size h1); have HBl : Hid (Below wl.heap.size wl wl) := Below.refl _ _; obtain ⟨o, cp, rfl⟩ := slice_of hrow)
      | (go_at_call 23; refine (C2 _).mono ?_; rintro e w1 ⟨rfl, h1⟩; have HBl : Hid (Below wl.heap.size wl w1) := (bthen HBl.out HBl.out.size h1)))
    go_loopw [8, 9] (fun av kv wr => ∃ k : Nat, kv = .int .i64 (k : Nat) ∧ av = .int .i64 (atK x k) ∧ k ≤ n ∧ Hid (Below wl.heap.size wl wr)) (fun _ kv _ => n + 1 - (intOf kv).toNat)
    case atStart => exact ⟨0, by first | rfl | simp, by first | rfl | rw [hA0] | simp [hA0], by omega, HBl⟩
    case round =>
      obtain ⟨k, rfl, rfl, hk, HR⟩ := hrel
      clear C0 C1 C2 C3 hA0 hx1 HBl
      have hkn : (k : Int) ≤ (n : Int) := by omega
      have w1 : IntKind.i64.wrap ((k : Int) + 1) = (k : Int) + 1 := wrap_small (by omega) (by omega)
      have O1 := HO.out k hk
      by_cases hlt : k < n
      · have hltl : k < L.length := by rw [HLn.out]; exact hlt
        have S1 := HS.out k hlt
        obtain ⟨g1, g2, g3⟩ := HG.out k hltl
        obtain ⟨q1, q2, q3⟩ := HCL k hltl
        rw [g1] at q1
        rw [g2] at q3
        obtain ⟨g, cap, hv, hg1, hg2, hcap, hcell⟩ := row_cells hrow (by omega)
        simp only [Value.slice.injEq] at hv
        obtain ⟨rfl, _, rfl⟩ := hv
        have d1 := hcell _ _ q1
        have d3 := hcell _ _ q3
        have HD : Hid (∀ W, Below wl.heap.size wl W → W.cell? ⟨g, k * 3, none⟩ = some (.int .i64 (pos x k)) ∧ W.cell? ⟨g, k * 3 + 2, none⟩ = some (.int .i64 (rn x (pos x k)))) := fun W hb => ⟨(hb.cell (p := ⟨g, k * 3, none⟩) hg2).trans d1, (hb.cell (p := ⟨g, k * 3 + 2, none⟩) hg2).trans d3⟩
        have w2 : IntKind.i64.wrap ((pos x k : Int) + 1) = (pos x k : Int) + 1 := wrap_small (by omega) (by omega)
        have hkn2 : (k : Int) < (n : Int) := by omega
        have hkn3 : ((k : Int) == (n : Int)) = false := by simp; omega
        have HA2 := HA.out k
        have H2 : Hid (n ≤ x.size) := hml
        clear HO HO2 HS HS2 HC HH HG HE HA HCL q1 q2 q3 d1 d3 hcell g1 g2 hrow hml
        have HA3 : Hid (atK x (k + 1) = (pos x k : Int) + 1) := HA2
        clear HA2
        generalize pos x k = p at *
        generalize rn x p = rr at *
        generalize atK x k = ak at *
        go_wp2_with fail
        refine (O1 _).mono ?_
        rintro e wo ⟨rfl, hwo⟩
        subst wo
        go_wp2_with fail
        refine (S1 _).mono ?_
        rintro e ws ⟨rfl, hbs⟩
        have HR2 : Hid (Below wl.heap.size wl ws) := bthen HR.out HR.out.size hbs
        obtain ⟨d1, d3⟩ := HD.out ws HR2.out
        go_wp2
        go_roundw
        case rel => exact ⟨k + 1, by go_num, by rw [HA3.out], by omega, HR2⟩
        case measure => simp [intOf]; omega
      · obtain rfl : k = n := by omega
        have S1 := HS2.out
        have O2 := HO2.out
        have C9 := HC.out
        have hpe := HE.out
        rw [hpe] at O1
        have w2 : IntKind.i64.wrap ((k : Int) + 2) = (k : Int) + 2 := wrap_small (by omega) (by omega)
        clear HO HO2 HS HS2 HC HG HE HA HCL hrow hpe
        generalize atK x k = ak at *
        go_wp2_with fail
        refine (O1 _).mono ?_
        rintro e wo ⟨rfl, hwo⟩
        subst wo
        go_wp2_with fail
        refine (S1 _).mono ?_
        rintro e ws ⟨rfl, hbs⟩
        have HR2 : Hid (Below wl.heap.size wl ws) := bthen HR.out HR.out.size hbs
        go_wp2_with fail
        refine (O2 _).mono ?_
        rintro e wo ⟨rfl, hwo⟩
        subst wo
        by_cases h200 : 200 < k
        · have h200' : (200 : Int) < (k : Int) := by omega
          rw [if_pos h200] at C9
          go_wp2_with fail
          refine (C9 _).mono ?_
          rintro e wc ⟨vc, rfl, _, hbc⟩
          have HR3 : Hid (Below wl.heap.size wl wc) := bthen HR2.out HR2.out.size hbc
          go_wp2
          go_ret
          exact ⟨rfl, bthen HB.out HB.out.size HR3.out⟩
        · have h200' : ¬ (200 : Int) < (k : Int) := by omega
          rw [if_neg h200] at C9
          go_wp2_with fail
          refine (C9 _).mono ?_
          rintro e wc ⟨vc, rfl, hic, hbc⟩
          have HR3 : Hid (Below wl.heap.size wl wc) := bthen HR2.out HR2.out.size hbc
          have CH := char_any _ vc wc (hic h200) (by rw [List.length_map, HLn.out]; omega)
          rw [HH.out] at CH
          clear hic
          go_wp2_with fail
          refine CH.mono ?_
          rintro e wd' ⟨rfl, hbd'⟩
          go_wp2
          go_ret
          exact ⟨by simp, bthen HB.out HB.out.size (bthen HR3.out HR3.out.size hbd')⟩
set_option maxRecDepth 100000 in
set_option maxHeartbeats 4000000 in
theorem valid_2 (s : ByteArray) (w : World) (h300 : 300 < s.size) (hbd : badOf (rest (s.extract 0 300) 0) < 0) (hg : Good (s.extract 0 300) 0) (hx : (s.extract 0 300).size ≤ 300) :
    Calls Try.prog 6 #[.string s] w fun e w' => e = .returned (.bool true) ∧ Below w.heap.size w w' := by
  have C0 := fixed_any
  have h3 : (300 : Int) < (s.size : Int) := by omega
  have C1 := fun W => rbad_any (s.extract 0 300) W (by simp [ByteArray.size_extract]; omega)
  obtain ⟨Bd, hBd⟩ : ∃ Bd, badOf (rest (s.extract 0 300) 0) = Bd := ⟨_, rfl⟩
  rw [hBd] at C1 hbd
  have hK0 : ¬ (0 : Int) ≤ Bd := by omega
  clear hBd
  obtain ⟨y, hy⟩ : ∃ y, s.extract 0 300 = y := ⟨_, rfl⟩
  rw [hy] at C1 hg hx
  have C2 := fun W => count_any y W (by omega)
  have C3 := fun W => list_any y W (by omega)
  have hml := rest_le y
  have HB : Hid (Below w.heap.size w w) := Below.refl _ _
  by_cases hz : y.size = 0
  · obtain rfl : y = ⟨#[]⟩ := by
      cases y with
      | mk d => exact congrArg ByteArray.mk (Array.eq_empty_of_size_eq_zero hz)
    have hL0 : rest (⟨#[]⟩ : ByteArray) 0 = [] := rest_end _ 0 (by decide)
    have L1 : ∀ W, Calls Try.prog 9 #[.string ⟨#[]⟩, .int .i64 1, .int .i64 (-1)] W fun e w' => e = .returned (.tuple #[.int .i64 0, .int .i64 0, .int .i64 0]) ∧ Below W.heap.size W w' := fun W => by
      have q := len_any (⟨#[]⟩ : ByteArray) 1 (-1) W (by decide) (by omega) (by omega) (by omega) (by omega)
      rw [len_all hg, hL0] at q
      exact q
    have L0 : ∀ W, Calls Try.prog 9 #[.string ⟨#[]⟩, .int .i64 1, .int .i64 0] W fun e w' => e = .returned (.tuple #[.int .i64 0, .int .i64 0, .int .i64 0]) ∧ Below W.heap.size W w' := fun W => by
      have q := len_any (⟨#[]⟩ : ByteArray) 1 0 W (by decide) (by omega) (by omega) (by omega) (by omega)
      rw [len_0] at q
      exact q
    have C2' : ∀ W, Calls Try.prog 23 #[.string ⟨#[]⟩] W fun e w' => e = .returned (.int .i64 0) ∧ Below W.heap.size W w' := fun W => by
      have q := C2 W
      rw [hL0] at q
      exact q
    have C3' : ∀ W, Calls Try.prog 22 #[.string ⟨#[]⟩] W fun e w' => ∃ o c, e = .returned (.slice o 0 c) ∧ Below W.heap.size W w' := fun W => by
      refine (C3 W).mono fun e w' hh => ?_
      obtain ⟨v, h1, h2, h3⟩ := hh
      rw [hL0] at h2
      obtain ⟨o, c, rfl⟩ := slice_of h2
      exact ⟨o, c, h1, h3⟩
    have O1 : ∀ W, Calls Try.prog 17 #[.string ⟨#[]⟩, .int .i64 1, .int .i64 1] W fun e w' => e = .returned (.tuple #[.int .i64 1, .bool true, .int .i64 0]) ∧ w' = W := fun W => by
      have q := offset_any (⟨#[]⟩ : ByteArray) 1 1 W (by decide) (by omega) (by omega) (by omega) (by omega)
      have e1 : ofs (⟨#[]⟩ : ByteArray) 1 1 = (1, true, 0) := ofs_fwd hg 0 (Nat.zero_le _)
      rw [e1] at q
      exact q
    have O2 : ∀ W, Calls Try.prog 17 #[.string ⟨#[]⟩, .int .i64 2, .int .i64 1] W fun e w' => e = .returned (.tuple #[.int .i64 0, .bool false, .int .i64 0]) ∧ w' = W := fun W => by
      have q := offset_any (⟨#[]⟩ : ByteArray) 2 1 W (by decide) (by omega) (by omega) (by omega) (by omega)
      have e1 : ofs (⟨#[]⟩ : ByteArray) 2 1 = (0, false, 0) := ofs_beh hg 1 (by rw [hL0]; simp)
      rw [e1] at q
      exact q
    have S1 : ∀ W, Calls Try.prog 19 #[.string ⟨#[]⟩, .int .i64 0] W fun e w' => e = .returned (.tuple #[.int .i64 0, .int .i64 0, .bool false, .int .i64 0]) ∧ Below W.heap.size W w' := fun W => by
      have q := step_any (⟨#[]⟩ : ByteArray) 0 W (by decide)
      have e1 : stR (⟨#[]⟩ : ByteArray) 0 = (0, 0, false, 0) := by
        have z := st_end (x := (⟨#[]⟩ : ByteArray))
        rw [hL0] at z
        exact z
      rw [e1] at q
      exact q
    have C9 : ∀ W, Calls Try.prog 11 #[.string ⟨#[]⟩, .int .i64 1, .int .i64 0] W fun e w' => ∃ o c, e = .returned (.tuple #[.slice o 0 c, .int .i64 0]) ∧ Ints w'.heap.size w' (.slice o 0 c) [] ∧ Below W.heap.size W w' := fun W => by
      refine (codes_any (⟨#[]⟩ : ByteArray) 1 0 W (by decide) (by omega) (by omega) (by omega) (by omega)).mono fun e w' hh => ?_
      obtain ⟨v, h1, h2, h3⟩ := hh
      have z := cdR_good hg
      rw [hL0, if_neg (by simp)] at z
      have z' : cdR (⟨#[]⟩ : ByteArray) 1 0 = ([], 0) := z
      rw [z'] at h1 h2
      obtain ⟨o, c, rfl⟩ := slice_of h2
      exact ⟨o, c, h1, ints_of (l := []) h2, h3⟩
    clear C2 C3 hml hg hL0 hz
    go_enter Try.func6, Try.ntmps6
    go_wp2_with (first
      | (go_at_call 13; refine (C0 _).mono ?_; rintro e w1 ⟨rfl, h1⟩; have HB : Hid (Below w.heap.size w w1) := (bthen HB.out HB.out.size h1))
      | (go_at_call 21; refine (C1 _).mono ?_; rintro e w1 ⟨rfl, h1⟩; have HB : Hid (Below w.heap.size w w1) := (bthen HB.out HB.out.size h1)))
    refine (L1 _).mono ?_
    rintro e wx ⟨rfl, hx1⟩
    have HB : Hid (Below w.heap.size w wx) := bthen HB.out HB.out.size hx1
    go_wp2_with fail
    refine (L0 _).mono ?_
    rintro e wy ⟨rfl, hx2⟩
    have HB : Hid (Below w.heap.size w wy) := bthen HB.out HB.out.size hx2
    go_wp2_with (first
      | (go_at_call 22; refine (C3' _).mono ?_; rintro e wl ⟨o, c, rfl, h1⟩; have HB : Hid (Below w.heap.size w wl) := (bthen HB.out HB.out.size h1))
      | (go_at_call 23; refine (C2' _).mono ?_; rintro e w1 ⟨rfl, h1⟩; have HB : Hid (Below w.heap.size w w1) := (bthen HB.out HB.out.size h1)))
    refine wp_loop_rounds 1 ?_
    rw [rounds_succ]
    go_wp2_with fail
    refine (O1 _).mono ?_
    rintro e wo ⟨rfl, hwo⟩
    subst wo
    go_wp2_with fail
    refine (S1 _).mono ?_
    rintro e ws ⟨rfl, hbs⟩
    have HB : Hid (Below w.heap.size w ws) := bthen HB.out HB.out.size hbs
    go_wp2_with fail
    refine (O2 _).mono ?_
    rintro e wo ⟨rfl, hwo⟩
    subst wo
    go_wp2_with fail
    refine (C9 _).mono ?_
    rintro e wc ⟨oc, cc, rfl, hic, hbc⟩
    have HB : Hid (Below w.heap.size w wc) := bthen HB.out HB.out.size hbc
    have CH := char_any [] _ wc hic (by simp)
    have CH' : Calls Try.prog 15 #[.slice oc 0 cc] wc fun e w' => e = .returned (.tuple #[.string ⟨#[]⟩, .int .i64 0]) ∧ Below wc.heap.size wc w' := CH
    clear CH hic
    go_wp2_with fail
    refine CH'.mono ?_
    rintro e wd' ⟨rfl, hbd'⟩
    go_wp2
    go_ret
    exact ⟨by simp, bthen HB.out HB.out.size hbd'⟩
  · have L1 := fun W => len_any y 1 (-1) W (by omega) (by omega) (by omega) (by omega) (by omega)
    rw [len_all hg] at L1
    have hz' : ¬ y = ByteArray.empty := fun h => by rw [h] at hz; simp at hz
    have HO : Hid (∀ k : Nat, k ≤ (rest y 0).length → ∀ W, Calls Try.prog 17 #[.string y, .int .i64 ((k : Int) + 1), .int .i64 1] W fun e w' => e = .returned (.tuple #[.int .i64 ((pos y k : Int) + 1), .bool true, .int .i64 0]) ∧ w' = W) := fun k hk W => by
      have q := offset_any y ((k : Int) + 1) 1 W (by omega) (by omega) (by omega) (by omega) (by omega)
      rw [ofs_fwd hg k hk, en_pos] at q
      exact q
    have HO2 : Hid (∀ W, Calls Try.prog 17 #[.string y, .int .i64 (((rest y 0).length : Int) + 2), .int .i64 1] W fun e w' => e = .returned (.tuple #[.int .i64 0, .bool false, .int .i64 0]) ∧ w' = W) := fun W => by
      have q := offset_any y ((((rest y 0).length + 1 : Nat) : Int) + 1) 1 W (by omega) (by omega) (by omega) (by omega) (by omega)
      rw [ofs_beh hg _ (by omega), show (((rest y 0).length + 1 : Nat) : Int) + 1 = ((rest y 0).length : Int) + 2 by omega] at q
      exact q
    have HS : Hid (∀ k : Nat, k < (rest y 0).length → ∀ W, Calls Try.prog 19 #[.string y, .int .i64 (atK y k)] W fun e w' => e = .returned (.tuple #[.int .i64 ((pos y k : Int) + 1), .int .i64 (rn y (pos y k)), .bool true, .int .i64 0]) ∧ Below W.heap.size W w') := fun k hk W => by
      have q := step_any y (atK y k) W (by omega)
      rw [st_mid hg hk] at q
      exact q
    have HS2 : Hid (∀ W, Calls Try.prog 19 #[.string y, .int .i64 (atK y (rest y 0).length)] W fun e w' => e = .returned (.tuple #[.int .i64 0, .int .i64 0, .bool false, .int .i64 0]) ∧ Below W.heap.size W w') := fun W => by
      have q := step_any y (atK y (rest y 0).length) W (by omega)
      rw [st_end] at q
      exact q
    have HC : Hid (∀ W, Calls Try.prog 11 #[.string y, .int .i64 1, .int .i64 y.size] W fun e w' => ∃ v, e = .returned (.tuple #[v, .int .i64 (if 200 < (rest y 0).length then 14 else 0)]) ∧ (¬ 200 < (rest y 0).length → Ints w'.heap.size w' v ((rest y 0).map fun r => (r.2.2 : Int))) ∧ Below W.heap.size W w') := fun W => by
      refine (codes_any y 1 y.size W (by omega) (by omega) (by omega) (by omega) (by omega)).mono fun e w' hh => ?_
      obtain ⟨v, h1, h2, h3⟩ := hh
      rw [cdR_good hg] at h1 h2
      refine ⟨v, ?_, fun h => ?_, h3⟩
      · rw [h1]; split <;> rfl
      · rw [if_neg h] at h2; exact ints_of h2
    have HH : Hid (chF [] ((rest y 0).map fun r => (r.2.2 : Int)) = (y, 0)) := chF_good (x := y) (by omega) _ 0 rfl (Nat.zero_le _) hg
    have HG : Hid (∀ k (hk : k < (rest y 0).length), (rest y 0)[k].1 = pos y k ∧ (rest y 0)[k].2.2 = rn y (pos y k) ∧ pos y k < y.size) := fun k hk => by
      have q := get_pos y k hk
      exact ⟨by rw [q], by rw [q], pos_lt y k hk⟩
    have HE : Hid (pos y (rest y 0).length = y.size) := pos_end y _ (Nat.le_refl _)
    have HA : Hid (∀ k, atK y (k + 1) = (pos y k : Int) + 1) := fun k => rfl
    have hA0 : atK y 0 = 0 := rfl
    have HCL := cells_get (rest y 0)
    obtain ⟨L, hL⟩ : ∃ L, rest y 0 = L := ⟨_, rfl⟩
    have hg0 := hg
    rw [hL] at C2 C3 L1 HO HO2 HS HS2 HC HH HG HE HCL hml
    have w8 : IntKind.i64.wrap ((y.size : Int) + 1) = (y.size : Int) + 1 := wrap_small (by omega) (by omega)
    clear hL hg hg0
    obtain ⟨n, hn⟩ : ∃ n, L.length = n := ⟨_, rfl⟩
    have HLn : Hid (L.length = n) := hn
    rw [hn] at C2 C3 L1 HO HO2 HS HS2 HC HE hml
    clear hn
    go_enter Try.func6, Try.ntmps6
    go_wp2_with (first
      | (go_at_call 13; refine (C0 _).mono ?_; rintro e w1 ⟨rfl, h1⟩; have HB : Hid (Below w.heap.size w w1) := (bthen HB.out HB.out.size h1))
      | (go_at_call 21; refine (C1 _).mono ?_; rintro e w1 ⟨rfl, h1⟩; have HB : Hid (Below w.heap.size w w1) := (bthen HB.out HB.out.size h1)))
    refine (L1 _).mono ?_
    rintro e wx ⟨rfl, hx1⟩
    have HB : Hid (Below w.heap.size w wx) := bthen HB.out HB.out.size hx1
    clear L1
    go_wp2_with (first
      | (go_at_call 22; refine (C3 _).mono ?_; rintro e wl ⟨v, rfl, hrow, h1⟩; have HB : Hid (Below w.heap.size w wl) := (bthen HB.out HB.out.size h1); have HBl : Hid (Below wl.heap.size wl wl) := Below.refl _ _; obtain ⟨o, cp, rfl⟩ := slice_of hrow)
      | (go_at_call 23; refine (C2 _).mono ?_; rintro e w1 ⟨rfl, h1⟩; have HBl : Hid (Below wl.heap.size wl w1) := (bthen HBl.out HBl.out.size h1)))
    go_loopw [8, 9] (fun av kv wr => ∃ k : Nat, kv = .int .i64 (k : Nat) ∧ av = .int .i64 (atK y k) ∧ k ≤ n ∧ Hid (Below wl.heap.size wl wr)) (fun _ kv _ => n + 1 - (intOf kv).toNat)
    case atStart => exact ⟨0, by first | rfl | simp, by first | rfl | rw [hA0] | simp [hA0], by omega, HBl⟩
    case round =>
      obtain ⟨k, rfl, rfl, hk, HR⟩ := hrel
      clear C0 C1 C2 C3 hA0 hx1 HBl
      have hkn : (k : Int) ≤ (n : Int) := by omega
      have w1 : IntKind.i64.wrap ((k : Int) + 1) = (k : Int) + 1 := wrap_small (by omega) (by omega)
      have O1 := HO.out k hk
      by_cases hlt : k < n
      · have hltl : k < L.length := by rw [HLn.out]; exact hlt
        have S1 := HS.out k hlt
        obtain ⟨g1, g2, g3⟩ := HG.out k hltl
        obtain ⟨q1, q2, q3⟩ := HCL k hltl
        rw [g1] at q1
        rw [g2] at q3
        obtain ⟨g, cap, hv, hg1, hg2, hcap, hcell⟩ := row_cells hrow (by omega)
        simp only [Value.slice.injEq] at hv
        obtain ⟨rfl, _, rfl⟩ := hv
        have d1 := hcell _ _ q1
        have d3 := hcell _ _ q3
        have HD : Hid (∀ W, Below wl.heap.size wl W → W.cell? ⟨g, k * 3, none⟩ = some (.int .i64 (pos y k)) ∧ W.cell? ⟨g, k * 3 + 2, none⟩ = some (.int .i64 (rn y (pos y k)))) := fun W hb => ⟨(hb.cell (p := ⟨g, k * 3, none⟩) hg2).trans d1, (hb.cell (p := ⟨g, k * 3 + 2, none⟩) hg2).trans d3⟩
        have w2 : IntKind.i64.wrap ((pos y k : Int) + 1) = (pos y k : Int) + 1 := wrap_small (by omega) (by omega)
        have hkn2 : (k : Int) < (n : Int) := by omega
        have hkn3 : ((k : Int) == (n : Int)) = false := by simp; omega
        have HA2 := HA.out k
        have H2 : Hid (n ≤ y.size) := hml
        clear HO HO2 HS HS2 HC HH HG HE HA HCL q1 q2 q3 d1 d3 hcell g1 g2 hrow hml
        have HA3 : Hid (atK y (k + 1) = (pos y k : Int) + 1) := HA2
        clear HA2
        generalize pos y k = p at *
        generalize rn y p = rr at *
        generalize atK y k = ak at *
        go_wp2_with fail
        refine (O1 _).mono ?_
        rintro e wo ⟨rfl, hwo⟩
        subst wo
        go_wp2_with fail
        refine (S1 _).mono ?_
        rintro e ws ⟨rfl, hbs⟩
        have HR2 : Hid (Below wl.heap.size wl ws) := bthen HR.out HR.out.size hbs
        obtain ⟨d1, d3⟩ := HD.out ws HR2.out
        go_wp2
        go_roundw
        case rel => exact ⟨k + 1, by go_num, by rw [HA3.out], by omega, HR2⟩
        case measure => simp [intOf]; omega
      · obtain rfl : k = n := by omega
        have S1 := HS2.out
        have O2 := HO2.out
        have C9 := HC.out
        have hpe := HE.out
        rw [hpe] at O1
        have w2 : IntKind.i64.wrap ((k : Int) + 2) = (k : Int) + 2 := wrap_small (by omega) (by omega)
        clear HO HO2 HS HS2 HC HG HE HA HCL hrow hpe
        generalize atK y k = ak at *
        go_wp2_with fail
        refine (O1 _).mono ?_
        rintro e wo ⟨rfl, hwo⟩
        subst wo
        go_wp2_with fail
        refine (S1 _).mono ?_
        rintro e ws ⟨rfl, hbs⟩
        have HR2 : Hid (Below wl.heap.size wl ws) := bthen HR.out HR.out.size hbs
        go_wp2_with fail
        refine (O2 _).mono ?_
        rintro e wo ⟨rfl, hwo⟩
        subst wo
        by_cases h200 : 200 < k
        · have h200' : (200 : Int) < (k : Int) := by omega
          rw [if_pos h200] at C9
          go_wp2_with fail
          refine (C9 _).mono ?_
          rintro e wc ⟨vc, rfl, _, hbc⟩
          have HR3 : Hid (Below wl.heap.size wl wc) := bthen HR2.out HR2.out.size hbc
          go_wp2
          go_ret
          exact ⟨rfl, bthen HB.out HB.out.size HR3.out⟩
        · have h200' : ¬ (200 : Int) < (k : Int) := by omega
          rw [if_neg h200] at C9
          go_wp2_with fail
          refine (C9 _).mono ?_
          rintro e wc ⟨vc, rfl, hic, hbc⟩
          have HR3 : Hid (Below wl.heap.size wl wc) := bthen HR2.out HR2.out.size hbc
          have CH := char_any _ vc wc (hic h200) (by rw [List.length_map, HLn.out]; omega)
          rw [HH.out] at CH
          clear hic
          go_wp2_with fail
          refine CH.mono ?_
          rintro e wd' ⟨rfl, hbd'⟩
          go_wp2
          go_ret
          exact ⟨by simp, bthen HB.out HB.out.size (bthen HR3.out HR3.out.size hbd')⟩
set_option maxRecDepth 100000 in
set_option maxHeartbeats 4000000 in
theorem valid_3 (s : ByteArray) (w : World) (h300 : 300 < s.size) (K : Nat) (hK : badOf (rest (s.extract 0 300) 0) = (K : Int)) (hg : Good ((s.extract 0 300).extract 0 K) 0) (hx : ((s.extract 0 300).extract 0 K).size ≤ 300) :
    Calls Try.prog 6 #[.string s] w fun e w' => e = .returned (.bool true) ∧ Below w.heap.size w w' := by
  have C0 := fixed_any
  have h3 : (300 : Int) < (s.size : Int) := by omega
  have C1 := fun W => rbad_any (s.extract 0 300) W (by simp [ByteArray.size_extract]; omega)
  rw [hK] at C1
  have hKs : (K : Int) ≤ ((s.extract 0 300).size : Int) := by have := (good_cut hK).2; omega
  have hK0 : (0 : Int) ≤ (K : Int) := by omega
  obtain ⟨y, hy⟩ : ∃ y, s.extract 0 300 = y := ⟨_, rfl⟩
  rw [hy] at C1 hg hx hKs
  clear hK
  obtain ⟨x, hxe⟩ : ∃ x, y.extract 0 K = x := ⟨_, rfl⟩
  rw [hxe] at hg hx
  have C2 := fun W => count_any x W (by omega)
  have C3 := fun W => list_any x W (by omega)
  have hml := rest_le x
  have HB : Hid (Below w.heap.size w w) := Below.refl _ _
  by_cases hz : x.size = 0
  · obtain rfl : x = ⟨#[]⟩ := by
      cases x with
      | mk d => exact congrArg ByteArray.mk (Array.eq_empty_of_size_eq_zero hz)
    have hL0 : rest (⟨#[]⟩ : ByteArray) 0 = [] := rest_end _ 0 (by decide)
    have L1 : ∀ W, Calls Try.prog 9 #[.string ⟨#[]⟩, .int .i64 1, .int .i64 (-1)] W fun e w' => e = .returned (.tuple #[.int .i64 0, .int .i64 0, .int .i64 0]) ∧ Below W.heap.size W w' := fun W => by
      have q := len_any (⟨#[]⟩ : ByteArray) 1 (-1) W (by decide) (by omega) (by omega) (by omega) (by omega)
      rw [len_all hg, hL0] at q
      exact q
    have L0 : ∀ W, Calls Try.prog 9 #[.string ⟨#[]⟩, .int .i64 1, .int .i64 0] W fun e w' => e = .returned (.tuple #[.int .i64 0, .int .i64 0, .int .i64 0]) ∧ Below W.heap.size W w' := fun W => by
      have q := len_any (⟨#[]⟩ : ByteArray) 1 0 W (by decide) (by omega) (by omega) (by omega) (by omega)
      rw [len_0] at q
      exact q
    have C2' : ∀ W, Calls Try.prog 23 #[.string ⟨#[]⟩] W fun e w' => e = .returned (.int .i64 0) ∧ Below W.heap.size W w' := fun W => by
      have q := C2 W
      rw [hL0] at q
      exact q
    have C3' : ∀ W, Calls Try.prog 22 #[.string ⟨#[]⟩] W fun e w' => ∃ o c, e = .returned (.slice o 0 c) ∧ Below W.heap.size W w' := fun W => by
      refine (C3 W).mono fun e w' hh => ?_
      obtain ⟨v, h1, h2, h3⟩ := hh
      rw [hL0] at h2
      obtain ⟨o, c, rfl⟩ := slice_of h2
      exact ⟨o, c, h1, h3⟩
    have O1 : ∀ W, Calls Try.prog 17 #[.string ⟨#[]⟩, .int .i64 1, .int .i64 1] W fun e w' => e = .returned (.tuple #[.int .i64 1, .bool true, .int .i64 0]) ∧ w' = W := fun W => by
      have q := offset_any (⟨#[]⟩ : ByteArray) 1 1 W (by decide) (by omega) (by omega) (by omega) (by omega)
      have e1 : ofs (⟨#[]⟩ : ByteArray) 1 1 = (1, true, 0) := ofs_fwd hg 0 (Nat.zero_le _)
      rw [e1] at q
      exact q
    have O2 : ∀ W, Calls Try.prog 17 #[.string ⟨#[]⟩, .int .i64 2, .int .i64 1] W fun e w' => e = .returned (.tuple #[.int .i64 0, .bool false, .int .i64 0]) ∧ w' = W := fun W => by
      have q := offset_any (⟨#[]⟩ : ByteArray) 2 1 W (by decide) (by omega) (by omega) (by omega) (by omega)
      have e1 : ofs (⟨#[]⟩ : ByteArray) 2 1 = (0, false, 0) := ofs_beh hg 1 (by rw [hL0]; simp)
      rw [e1] at q
      exact q
    have S1 : ∀ W, Calls Try.prog 19 #[.string ⟨#[]⟩, .int .i64 0] W fun e w' => e = .returned (.tuple #[.int .i64 0, .int .i64 0, .bool false, .int .i64 0]) ∧ Below W.heap.size W w' := fun W => by
      have q := step_any (⟨#[]⟩ : ByteArray) 0 W (by decide)
      have e1 : stR (⟨#[]⟩ : ByteArray) 0 = (0, 0, false, 0) := by
        have z := st_end (x := (⟨#[]⟩ : ByteArray))
        rw [hL0] at z
        exact z
      rw [e1] at q
      exact q
    have C9 : ∀ W, Calls Try.prog 11 #[.string ⟨#[]⟩, .int .i64 1, .int .i64 0] W fun e w' => ∃ o c, e = .returned (.tuple #[.slice o 0 c, .int .i64 0]) ∧ Ints w'.heap.size w' (.slice o 0 c) [] ∧ Below W.heap.size W w' := fun W => by
      refine (codes_any (⟨#[]⟩ : ByteArray) 1 0 W (by decide) (by omega) (by omega) (by omega) (by omega)).mono fun e w' hh => ?_
      obtain ⟨v, h1, h2, h3⟩ := hh
      have z := cdR_good hg
      rw [hL0, if_neg (by simp)] at z
      have z' : cdR (⟨#[]⟩ : ByteArray) 1 0 = ([], 0) := z
      rw [z'] at h1 h2
      obtain ⟨o, c, rfl⟩ := slice_of h2
      exact ⟨o, c, h1, ints_of (l := []) h2, h3⟩
    clear C2 C3 hml hg hL0 hz
    go_enter Try.func6, Try.ntmps6
    go_wp2_with (first
      | (go_at_call 13; refine (C0 _).mono ?_; rintro e w1 ⟨rfl, h1⟩; have HB : Hid (Below w.heap.size w w1) := (bthen HB.out HB.out.size h1))
      | (go_at_call 21; refine (C1 _).mono ?_; rintro e w1 ⟨rfl, h1⟩; have HB : Hid (Below w.heap.size w w1) := (bthen HB.out HB.out.size h1)))
    refine (L1 _).mono ?_
    rintro e wx ⟨rfl, hx1⟩
    have HB : Hid (Below w.heap.size w wx) := bthen HB.out HB.out.size hx1
    go_wp2_with fail
    refine (L0 _).mono ?_
    rintro e wy ⟨rfl, hx2⟩
    have HB : Hid (Below w.heap.size w wy) := bthen HB.out HB.out.size hx2
    go_wp2_with (first
      | (go_at_call 22; refine (C3' _).mono ?_; rintro e wl ⟨o, c, rfl, h1⟩; have HB : Hid (Below w.heap.size w wl) := (bthen HB.out HB.out.size h1))
      | (go_at_call 23; refine (C2' _).mono ?_; rintro e w1 ⟨rfl, h1⟩; have HB : Hid (Below w.heap.size w w1) := (bthen HB.out HB.out.size h1)))
    refine wp_loop_rounds 1 ?_
    rw [rounds_succ]
    go_wp2_with fail
    refine (O1 _).mono ?_
    rintro e wo ⟨rfl, hwo⟩
    subst wo
    go_wp2_with fail
    refine (S1 _).mono ?_
    rintro e ws ⟨rfl, hbs⟩
    have HB : Hid (Below w.heap.size w ws) := bthen HB.out HB.out.size hbs
    go_wp2_with fail
    refine (O2 _).mono ?_
    rintro e wo ⟨rfl, hwo⟩
    subst wo
    go_wp2_with fail
    refine (C9 _).mono ?_
    rintro e wc ⟨oc, cc, rfl, hic, hbc⟩
    have HB : Hid (Below w.heap.size w wc) := bthen HB.out HB.out.size hbc
    have CH := char_any [] _ wc hic (by simp)
    have CH' : Calls Try.prog 15 #[.slice oc 0 cc] wc fun e w' => e = .returned (.tuple #[.string ⟨#[]⟩, .int .i64 0]) ∧ Below wc.heap.size wc w' := CH
    clear CH hic
    go_wp2_with fail
    refine CH'.mono ?_
    rintro e wd' ⟨rfl, hbd'⟩
    go_wp2
    go_ret
    exact ⟨by simp, bthen HB.out HB.out.size hbd'⟩
  · have L1 := fun W => len_any x 1 (-1) W (by omega) (by omega) (by omega) (by omega) (by omega)
    rw [len_all hg] at L1
    have hz' : ¬ x = ByteArray.empty := fun h => by rw [h] at hz; simp at hz
    have HO : Hid (∀ k : Nat, k ≤ (rest x 0).length → ∀ W, Calls Try.prog 17 #[.string x, .int .i64 ((k : Int) + 1), .int .i64 1] W fun e w' => e = .returned (.tuple #[.int .i64 ((pos x k : Int) + 1), .bool true, .int .i64 0]) ∧ w' = W) := fun k hk W => by
      have q := offset_any x ((k : Int) + 1) 1 W (by omega) (by omega) (by omega) (by omega) (by omega)
      rw [ofs_fwd hg k hk, en_pos] at q
      exact q
    have HO2 : Hid (∀ W, Calls Try.prog 17 #[.string x, .int .i64 (((rest x 0).length : Int) + 2), .int .i64 1] W fun e w' => e = .returned (.tuple #[.int .i64 0, .bool false, .int .i64 0]) ∧ w' = W) := fun W => by
      have q := offset_any x ((((rest x 0).length + 1 : Nat) : Int) + 1) 1 W (by omega) (by omega) (by omega) (by omega) (by omega)
      rw [ofs_beh hg _ (by omega), show (((rest x 0).length + 1 : Nat) : Int) + 1 = ((rest x 0).length : Int) + 2 by omega] at q
      exact q
    have HS : Hid (∀ k : Nat, k < (rest x 0).length → ∀ W, Calls Try.prog 19 #[.string x, .int .i64 (atK x k)] W fun e w' => e = .returned (.tuple #[.int .i64 ((pos x k : Int) + 1), .int .i64 (rn x (pos x k)), .bool true, .int .i64 0]) ∧ Below W.heap.size W w') := fun k hk W => by
      have q := step_any x (atK x k) W (by omega)
      rw [st_mid hg hk] at q
      exact q
    have HS2 : Hid (∀ W, Calls Try.prog 19 #[.string x, .int .i64 (atK x (rest x 0).length)] W fun e w' => e = .returned (.tuple #[.int .i64 0, .int .i64 0, .bool false, .int .i64 0]) ∧ Below W.heap.size W w') := fun W => by
      have q := step_any x (atK x (rest x 0).length) W (by omega)
      rw [st_end] at q
      exact q
    have HC : Hid (∀ W, Calls Try.prog 11 #[.string x, .int .i64 1, .int .i64 x.size] W fun e w' => ∃ v, e = .returned (.tuple #[v, .int .i64 (if 200 < (rest x 0).length then 14 else 0)]) ∧ (¬ 200 < (rest x 0).length → Ints w'.heap.size w' v ((rest x 0).map fun r => (r.2.2 : Int))) ∧ Below W.heap.size W w') := fun W => by
      refine (codes_any x 1 x.size W (by omega) (by omega) (by omega) (by omega) (by omega)).mono fun e w' hh => ?_
      obtain ⟨v, h1, h2, h3⟩ := hh
      rw [cdR_good hg] at h1 h2
      refine ⟨v, ?_, fun h => ?_, h3⟩
      · rw [h1]; split <;> rfl
      · rw [if_neg h] at h2; exact ints_of h2
    have HH : Hid (chF [] ((rest x 0).map fun r => (r.2.2 : Int)) = (x, 0)) := chF_good (x := x) (by omega) _ 0 rfl (Nat.zero_le _) hg
    have HG : Hid (∀ k (hk : k < (rest x 0).length), (rest x 0)[k].1 = pos x k ∧ (rest x 0)[k].2.2 = rn x (pos x k) ∧ pos x k < x.size) := fun k hk => by
      have q := get_pos x k hk
      exact ⟨by rw [q], by rw [q], pos_lt x k hk⟩
    have HE : Hid (pos x (rest x 0).length = x.size) := pos_end x _ (Nat.le_refl _)
    have HA : Hid (∀ k, atK x (k + 1) = (pos x k : Int) + 1) := fun k => rfl
    have hA0 : atK x 0 = 0 := rfl
    have HCL := cells_get (rest x 0)
    obtain ⟨L, hL⟩ : ∃ L, rest x 0 = L := ⟨_, rfl⟩
    have hg0 := hg
    rw [hL] at C2 C3 L1 HO HO2 HS HS2 HC HH HG HE HCL hml
    have w8 : IntKind.i64.wrap ((x.size : Int) + 1) = (x.size : Int) + 1 := wrap_small (by omega) (by omega)
    clear hL hg hg0
    obtain ⟨n, hn⟩ : ∃ n, L.length = n := ⟨_, rfl⟩
    have HLn : Hid (L.length = n) := hn
    rw [hn] at C2 C3 L1 HO HO2 HS HS2 HC HE hml
    clear hn
    go_enter Try.func6, Try.ntmps6
    go_wp2_with (first
      | (go_at_call 13; refine (C0 _).mono ?_; rintro e w1 ⟨rfl, h1⟩; have HB : Hid (Below w.heap.size w w1) := (bthen HB.out HB.out.size h1))
      | (go_at_call 21; refine (C1 _).mono ?_; rintro e w1 ⟨rfl, h1⟩; have HB : Hid (Below w.heap.size w w1) := (bthen HB.out HB.out.size h1)))
    refine (L1 _).mono ?_
    rintro e wx ⟨rfl, hx1⟩
    have HB : Hid (Below w.heap.size w wx) := bthen HB.out HB.out.size hx1
    clear L1
    go_wp2_with (first
      | (go_at_call 22; refine (C3 _).mono ?_; rintro e wl ⟨v, rfl, hrow, h1⟩; have HB : Hid (Below w.heap.size w wl) := (bthen HB.out HB.out.size h1); have HBl : Hid (Below wl.heap.size wl wl) := Below.refl _ _; obtain ⟨o, cp, rfl⟩ := slice_of hrow)
      | (go_at_call 23; refine (C2 _).mono ?_; rintro e w1 ⟨rfl, h1⟩; have HBl : Hid (Below wl.heap.size wl w1) := (bthen HBl.out HBl.out.size h1)))
    go_loopw [8, 9] (fun av kv wr => ∃ k : Nat, kv = .int .i64 (k : Nat) ∧ av = .int .i64 (atK x k) ∧ k ≤ n ∧ Hid (Below wl.heap.size wl wr)) (fun _ kv _ => n + 1 - (intOf kv).toNat)
    case atStart => exact ⟨0, by first | rfl | simp, by first | rfl | rw [hA0] | simp [hA0], by omega, HBl⟩
    case round =>
      obtain ⟨k, rfl, rfl, hk, HR⟩ := hrel
      clear C0 C1 C2 C3 hA0 hx1 HBl
      have hkn : (k : Int) ≤ (n : Int) := by omega
      have w1 : IntKind.i64.wrap ((k : Int) + 1) = (k : Int) + 1 := wrap_small (by omega) (by omega)
      have O1 := HO.out k hk
      by_cases hlt : k < n
      · have hltl : k < L.length := by rw [HLn.out]; exact hlt
        have S1 := HS.out k hlt
        obtain ⟨g1, g2, g3⟩ := HG.out k hltl
        obtain ⟨q1, q2, q3⟩ := HCL k hltl
        rw [g1] at q1
        rw [g2] at q3
        obtain ⟨g, cap, hv, hg1, hg2, hcap, hcell⟩ := row_cells hrow (by omega)
        simp only [Value.slice.injEq] at hv
        obtain ⟨rfl, _, rfl⟩ := hv
        have d1 := hcell _ _ q1
        have d3 := hcell _ _ q3
        have HD : Hid (∀ W, Below wl.heap.size wl W → W.cell? ⟨g, k * 3, none⟩ = some (.int .i64 (pos x k)) ∧ W.cell? ⟨g, k * 3 + 2, none⟩ = some (.int .i64 (rn x (pos x k)))) := fun W hb => ⟨(hb.cell (p := ⟨g, k * 3, none⟩) hg2).trans d1, (hb.cell (p := ⟨g, k * 3 + 2, none⟩) hg2).trans d3⟩
        have w2 : IntKind.i64.wrap ((pos x k : Int) + 1) = (pos x k : Int) + 1 := wrap_small (by omega) (by omega)
        have hkn2 : (k : Int) < (n : Int) := by omega
        have hkn3 : ((k : Int) == (n : Int)) = false := by simp; omega
        have HA2 := HA.out k
        have H2 : Hid (n ≤ x.size) := hml
        clear HO HO2 HS HS2 HC HH HG HE HA HCL q1 q2 q3 d1 d3 hcell g1 g2 hrow hml
        have HA3 : Hid (atK x (k + 1) = (pos x k : Int) + 1) := HA2
        clear HA2
        generalize pos x k = p at *
        generalize rn x p = rr at *
        generalize atK x k = ak at *
        go_wp2_with fail
        refine (O1 _).mono ?_
        rintro e wo ⟨rfl, hwo⟩
        subst wo
        go_wp2_with fail
        refine (S1 _).mono ?_
        rintro e ws ⟨rfl, hbs⟩
        have HR2 : Hid (Below wl.heap.size wl ws) := bthen HR.out HR.out.size hbs
        obtain ⟨d1, d3⟩ := HD.out ws HR2.out
        go_wp2
        go_roundw
        case rel => exact ⟨k + 1, by go_num, by rw [HA3.out], by omega, HR2⟩
        case measure => simp [intOf]; omega
      · obtain rfl : k = n := by omega
        have S1 := HS2.out
        have O2 := HO2.out
        have C9 := HC.out
        have hpe := HE.out
        rw [hpe] at O1
        have w2 : IntKind.i64.wrap ((k : Int) + 2) = (k : Int) + 2 := wrap_small (by omega) (by omega)
        clear HO HO2 HS HS2 HC HG HE HA HCL hrow hpe
        generalize atK x k = ak at *
        go_wp2_with fail
        refine (O1 _).mono ?_
        rintro e wo ⟨rfl, hwo⟩
        subst wo
        go_wp2_with fail
        refine (S1 _).mono ?_
        rintro e ws ⟨rfl, hbs⟩
        have HR2 : Hid (Below wl.heap.size wl ws) := bthen HR.out HR.out.size hbs
        go_wp2_with fail
        refine (O2 _).mono ?_
        rintro e wo ⟨rfl, hwo⟩
        subst wo
        by_cases h200 : 200 < k
        · have h200' : (200 : Int) < (k : Int) := by omega
          rw [if_pos h200] at C9
          go_wp2_with fail
          refine (C9 _).mono ?_
          rintro e wc ⟨vc, rfl, _, hbc⟩
          have HR3 : Hid (Below wl.heap.size wl wc) := bthen HR2.out HR2.out.size hbc
          go_wp2
          go_ret
          exact ⟨rfl, bthen HB.out HB.out.size HR3.out⟩
        · have h200' : ¬ (200 : Int) < (k : Int) := by omega
          rw [if_neg h200] at C9
          go_wp2_with fail
          refine (C9 _).mono ?_
          rintro e wc ⟨vc, rfl, hic, hbc⟩
          have HR3 : Hid (Below wl.heap.size wl wc) := bthen HR2.out HR2.out.size hbc
          have CH := char_any _ vc wc (hic h200) (by rw [List.length_map, HLn.out]; omega)
          rw [HH.out] at CH
          clear hic
          go_wp2_with fail
          refine CH.mono ?_
          rintro e wd' ⟨rfl, hbd'⟩
          go_wp2
          go_ret
          exact ⟨by simp, bthen HB.out HB.out.size (bthen HR3.out HR3.out.size hbd')⟩
theorem valid_walk (s : ByteArray) (w : World) : Calls Try.prog 6 #[.string s] w fun e w' => e = .returned (.bool true) ∧ Below w.heap.size w w' := by
  by_cases h : s.size ≤ 300
  · by_cases hb : badOf (rest s 0) < 0
    · exact valid_0 s w h hb (nobad_good hb) h
    · have hK : badOf (rest s 0) = ((badOf (rest s 0)).toNat : Int) := by omega
      have q := good_cut hK
      exact valid_1 s w h _ hK q.1 (by simp [ByteArray.size_extract]; omega)
  · have z : (s.extract 0 300).size = 300 := by simp [ByteArray.size_extract]; omega
    by_cases hb : badOf (rest (s.extract 0 300) 0) < 0
    · exact valid_2 s w (by omega) hb (nobad_good hb) (by omega)
    · have hK : badOf (rest (s.extract 0 300) 0) = ((badOf (rest (s.extract 0 300) 0)).toNat : Int) := by omega
      have q := good_cut hK
      exact valid_3 s w (by omega) _ hK q.1 (by rw [ByteArray.size_extract]; omega)
end Go.Proofs.Ytbgbhogcjaodkaa

/- The walk of the reference's Len, behind the array. The numbers of the seat of BorderPlays. -/
import Derived.Test.YtoomlihccniooaaGreatCg34
namespace Go.Proofs.YtoomlihccniooaaGreat
open Go.RowKit
section
variable {No : Nat → Prop} {w : World} {RT A P ka va ca : Nat} {cb : Nat → Nat} {G c : Nat} {t : TS} {s : H.St}
set_option maxRecDepth 20000 in
set_option maxHeartbeats 8000000 in
theorem rlen_beh (h : RQ No w RT A P ka va ca cb G c t s) (hc : c ≤ 600000) (hcond : ¬ (t.p.n ≠ 0 ∧ sl t.p t.p.n = false)) :
    Calls Tryz.prog 10 #[.pointer (some ⟨RT, 0, none⟩)] w fun e w' => e = .returned (.int .i64 (beh t.p).1) ∧ RQ No w' RT A P ka va ca cb G (c + 130) { t with pr := t.pr + ((beh t.p).2 : Nat) } s ∧ Keep No w w' := by
  have HQ : Hid (RQ No w RT A P ka va ca cb G c t s) := h
  have hle := h.ti.le
  have c0 := h.rb.c0
  have c4 := h.rb.c4
  have HA : Hid (∀ (r k : Nat) (W : World) (m : Int), k ≤ 1000 → 0 ≤ m → m ≤ (9223372036854775807 : Int) → Ry No w RT A P ka va ca cb G c t s r k W → Calls Tryz.prog 43 #[.pointer (some ⟨RT, 0, none⟩), .int .i64 m] W fun e w' => e = .returned (.bool (hs t.p m)) ∧ Ry No w RT A P ka va ca cb G c t s (r + rdn t.p m) (k + 1) w') := fun r k W m hk g0 g1 q => q.ask hc hk m g0 g1
  have HD : Hid (∀ (r k : Nat) (W : World), k ≤ 130 → Ry No w RT A P ka va ca cb G c t s r k W → RQ No W RT A P ka va ca cb G (c + 130) { t with pr := t.pr + (r : Nat) } s ∧ Keep No w W) := fun r k W hk q => q.done hk
  have hw1 : IntKind.i64.wrap ((t.p.n : Int) + 1) = (t.p.n : Int) + 1 := by rw [IntKind.wrap_i64]; omega
  have hw2 : IntKind.i64.wrap (2 * (t.p.n : Int)) = 2 * (t.p.n : Int) := by rw [IntKind.wrap_i64]; omega
  have hw3 : IntKind.i64.wrap (2 * (t.p.n : Int) + 2) = 2 * ((t.p.n : Int) + 1) := by rw [IntKind.wrap_i64]; omega
  clear h
  unfold beh
  obtain ⟨bb, hbb⟩ : ∃ bb, hs t.p ((t.p.n : Int) + 1) = bb := ⟨_, rfl⟩
  have HBB : Hid (hs t.p ((t.p.n : Int) + 1) = bb) := hbb
  rw [hbb]
  clear hbb
  obtain ⟨r1, hr1⟩ : ∃ r1, rdn t.p ((t.p.n : Int) + 1) = r1 := ⟨_, rfl⟩
  rw [hr1]
  have HR1 : Hid (rdn t.p ((t.p.n : Int) + 1) = r1) := hr1
  clear hr1
  obtain ⟨L, Uu, R, hDb⟩ : ∃ L Uu R, dbl (hs t.p) (rdn t.p) 64 ((t.p.n : Int) + 1) (2 * ((t.p.n : Int) + 1)) = (L, Uu, R) := ⟨_, _, _, rfl⟩
  have HDb : Hid (dbl (hs t.p) (rdn t.p) 64 ((t.p.n : Int) + 1) (2 * ((t.p.n : Int) + 1)) = (L, Uu, R)) := hDb
  rw [hDb]
  clear hDb
  obtain ⟨x, hx⟩ : ∃ x, (if bb = false then ((t.p.n : Int), r1) else ((hlv (hs t.p) (rdn t.p) 64 (L, Uu, R).1 (L, Uu, R).2.1).1, r1 + (L, Uu, R).2.2 + (hlv (hs t.p) (rdn t.p) 64 (L, Uu, R).1 (L, Uu, R).2.1).2)) = x := ⟨_, rfl⟩
  rw [hx]
  have HX : Hid ((if bb = false then ((t.p.n : Int), r1) else ((hlv (hs t.p) (rdn t.p) 64 L Uu).1, r1 + R + (hlv (hs t.p) (rdn t.p) 64 L Uu).2)) = x) := hx
  clear hx
  have HCo : Hid (¬ (t.p.n ≠ 0 ∧ sl t.p t.p.n = false)) := hcond
  clear hcond
  go_enter Tryz.func10, Tryz.ntmps10
  go_wp2_with fail
  go_cut [3, 4] from 11 to 19 (fun av hv wx => av = .int .i64 (t.p.n : Nat) ∧ hv = .int .i64 t.hint ∧ Hid (Below w.heap.size w wx))
  case first =>
    go_region
    all_goals
      go_wp2_with fail
      go_meet
      exact ⟨rfl, rfl, bdrew1 w⟩
  case rest =>
    obtain ⟨rfl, rfl, HBx⟩ := hcut
    obtain ⟨U, hU⟩ : ∃ U, U = wc := ⟨_, rfl⟩
    rw [← hU] at HBx ⊢
    clear hU c0 c4
    go_upto_region 2 with fail
    go_cut [27] from 20 to 26 (fun cw wx => cw = .bool false ∧ wx = U)
    case first =>
      by_cases n0 : t.p.n = 0
      · have g0 : ¬ ((0 : Int) < (t.p.n : Int)) := by omega
        clear n0
        go_wp2_with fail
        go_meet
        exact ⟨rfl, rfl⟩
      · have g0 : (0 : Int) < (t.p.n : Int) := by omega
        have CN := rslot_any (HQ.out.rb.below HBx.out) hle (t.p.n : Nat) (by omega) (by omega)
        have e1 : sl t.p t.p.n = true := by
          cases q : sl t.p t.p.n
          · exact absurd ⟨n0, q⟩ HCo.out
          · rfl
        rw [e1] at CN
        go_wp2_with fail
        refine CN.mono ?_; rintro e w1 ⟨rfl, hw⟩; rw [hw]; clear hw CN
        go_wp2_with fail
        go_meet
        exact ⟨rfl, rfl⟩
    case rest =>
      obtain ⟨rfl, hwc⟩ := hcut
      rw [hwc]
      clear hwc
      have C1 := HA.out 0 0 U ((t.p.n : Int) + 1) (by omega) (by omega) (by omega) (Ry.start HQ.out HBx.out)
      rw [HBB.out, HR1.out, Nat.zero_add, Nat.zero_add] at C1
      cases bb with
      | false =>
        have HX2 : Hid (((t.p.n : Int), r1) = x) := HX.out
        clear HX
        go_wp2_with fail
        refine C1.mono ?_; rintro e W1 ⟨rfl, k1⟩
        have HK1 : Hid _ := HD.out _ _ _ (by omega) k1
        clear C1 k1
        go_wp2_with fail
        go_ret
        rw [← HX2.out]
        exact ⟨rfl, HK1.out⟩
      | true =>
        have HX2 : Hid (((hlv (hs t.p) (rdn t.p) 64 L Uu).1, r1 + R + (hlv (hs t.p) (rdn t.p) 64 L Uu).2) = x) := HX.out
        clear HX
        go_wp2_with fail
        refine C1.mono ?_; rintro e W1 ⟨rfl, k1⟩
        have HK1 : Hid (Ry No w RT A P ka va ca cb G c t s r1 1 W1) := k1
        clear C1 k1
        have hn1 : 1 ≤ (t.p.n : Int) + 1 ∧ (t.p.n : Int) + 1 ≤ 65537 := ⟨by omega, by omega⟩
        go_wp2_with fail
        generalize (t.p.n : Int) + 1 = n1 at *
        clear hw1 hw2 hw3
        go_loopw [8, 9] (fun lw hw wr => ∃ (f : Nat) (l u : Int) (r k : Nat), lw = .int .i64 l ∧ hw = .int .i64 u ∧ 1 ≤ l ∧ l < u ∧ u ≤ (9223372036854775807 : Int) ∧ (u = (9223372036854775807 : Int) ∨ (9223372036854775807 : Int) < u * 2 ^ f) ∧ f + k = 64 ∧ 1 ≤ k ∧ Hid (Ry No w RT A P ka va ca cb G c t s (r1 + r) k wr ∧ (dbl (hs t.p) (rdn t.p) (f + 1) l u).1 = L ∧ (dbl (hs t.p) (rdn t.p) (f + 1) l u).2.1 = Uu ∧ (dbl (hs t.p) (rdn t.p) (f + 1) l u).2.2 + r = R)) (fun _ hw _ => (9223372036854775807 - intOf hw).toNat)
        case atStart =>
          refine ⟨63, n1, 2 * n1, 0, 1, rfl, rfl, hn1.1, by omega, by omega, .inr (by omega), rfl, Nat.le_refl _, HK1.out, ?_, ?_, ?_⟩ <;> rw [HDb.out]
          rfl
        case round =>
          obtain ⟨f, l, u, r, k, rfl, rfl, g1, g2, g3, g4, g5, g6, HR⟩ := hrel
          clear HK1 HDb hn1
          have C1 := HA.out _ _ _ u (by omega) (by omega) g3 HR.out.1
          have HE : Hid (dbl (hs t.p) (rdn t.p) (f + 1) l u = if hs t.p u then (if u = (9223372036854775807 : Int) then ((9223372036854775807 : Int), (9223372036854775807 : Int), rdn t.p u) else ((dbl (hs t.p) (rdn t.p) f u (tw u)).1, (dbl (hs t.p) (rdn t.p) f u (tw u)).2.1, (dbl (hs t.p) (rdn t.p) f u (tw u)).2.2 + rdn t.p u)) else (l, u, rdn t.p u)) := by
            show _ = _
            rw [dbl]
          cases e2 : hs t.p u with
          | true =>
            rw [e2] at C1 HE
            by_cases q : u = (9223372036854775807 : Int)
            · have HE2 : Hid (L = (9223372036854775807 : Int) ∧ Uu = (9223372036854775807 : Int) ∧ rdn t.p u + r = R) := by
                obtain ⟨_, q1, q2, q3⟩ := HR.out
                rw [HE.out, if_pos rfl, if_pos q] at q1 q2 q3
                exact ⟨q1.symm, q2.symm, q3⟩
              have gq : (u == (9223372036854775807 : Int)) = true := by simp [q]
              have HU : Hid (u = (9223372036854775807 : Int)) := q
              clear HE q
              go_wp2_with fail
              refine C1.mono ?_; rintro e W3 ⟨rfl, k3⟩
              have HK3 : Hid _ := HD.out _ _ _ (by omega) k3
              clear C1 k3 HR
              go_wp2_with fail
              go_ret
              obtain ⟨q1, q2, q3⟩ := HE2.out
              have eh : hlv (hs t.p) (rdn t.p) 64 L Uu = ((9223372036854775807 : Int), 0) := by rw [q1, q2, hlv, if_neg (by omega)]
              rw [← HX2.out, eh]
              refine ⟨rfl, ?_⟩
              have e3 : r1 + R + 0 = r1 + r + rdn t.p u := by omega
              show RQ No _ RT A P ka va ca cb G (c + 130) { t with pr := t.pr + ((r1 + R + 0 : Nat) : Int) } s ∧ _
              rw [e3]
              exact HK3.out
            · obtain ⟨f', hf', t1, t2, t3⟩ := tw_ok (f := f) (h := u) (by omega) q g3 (by omega)
              have HE2 : Hid ((dbl (hs t.p) (rdn t.p) f u (tw u)).1 = L ∧ (dbl (hs t.p) (rdn t.p) f u (tw u)).2.1 = Uu ∧ (dbl (hs t.p) (rdn t.p) f u (tw u)).2.2 + (r + rdn t.p u) = R) := by
                obtain ⟨_, q1, q2, q3⟩ := HR.out
                rw [HE.out, if_pos rfl, if_neg q] at q1 q2 q3
                exact ⟨q1, q2, by simp only at q3; omega⟩
              subst hf'
              clear HE
              have gq : (u == (9223372036854775807 : Int)) = false := by simpa using q
              have HT : Hid (u < tw u ∧ tw u ≤ (9223372036854775807 : Int) ∧ (tw u = (9223372036854775807 : Int) ∨ (9223372036854775807 : Int) < tw u * 2 ^ f')) := ⟨t1, t2, t3⟩
              clear t1 t2 t3
              by_cases q4 : 4611686018427387903 < u
              · have et : tw u = (9223372036854775807 : Int) := by unfold tw; rw [if_pos q4]
                rw [et] at HT HE2
                clear et
                go_wp2_with fail
                refine C1.mono ?_; rintro e W3 ⟨rfl, k3⟩
                have HK3 : Hid (Ry No w RT A P ka va ca cb G c t s (r1 + (r + rdn t.p u)) (k + 1) W3) := by rw [← Nat.add_assoc]; exact k3
                clear C1 k3 HR
                go_wp2_with fail
                go_round
                case rel => exact ⟨f', u, (9223372036854775807 : Int), r + rdn t.p u, k + 1, rfl, rfl, by omega, HT.out.1, HT.out.2.1, .inl rfl, by omega, by omega, HK3.out, HE2.out⟩
                case measure => have := HT.out.1; simp [intOf]; omega
              · have et : tw u = 2 * u := by unfold tw; rw [if_neg q4]
                have hwu : IntKind.i64.wrap (2 * u) = 2 * u := by rw [IntKind.wrap_i64]; omega
                rw [et] at HT HE2
                clear et
                go_wp2_with fail
                refine C1.mono ?_; rintro e W3 ⟨rfl, k3⟩
                have HK3 : Hid (Ry No w RT A P ka va ca cb G c t s (r1 + (r + rdn t.p u)) (k + 1) W3) := by rw [← Nat.add_assoc]; exact k3
                clear C1 k3 HR
                go_wp2_with fail
                go_round
                case rel => exact ⟨f', u, 2 * u, r + rdn t.p u, k + 1, rfl, rfl, by omega, HT.out.1, HT.out.2.1, HT.out.2.2, by omega, by omega, HK3.out, HE2.out⟩
                case measure => have := HT.out.1; simp [intOf]; omega
          | false =>
            rw [e2] at C1 HE
            have HE2 : Hid (l = L ∧ u = Uu ∧ rdn t.p u + r = R) := by
              obtain ⟨_, q1, q2, q3⟩ := HR.out
              rw [HE.out, if_neg (by simp)] at q1 q2 q3
              exact ⟨q1, q2, q3⟩
            clear HE
            go_wp2_with fail
            refine C1.mono ?_; rintro e W3 ⟨rfl, k3⟩
            have HK3 : Hid (Ry No w RT A P ka va ca cb G c t s (r1 + R) (k + 1) W3) := by
              have e3 : r1 + R = r1 + r + rdn t.p u := by have := HE2.out.2.2; omega
              rw [e3]; exact k3
            clear C1 k3 HR
            obtain ⟨xh, Rh, hxh⟩ : ∃ xh Rh, hlv (hs t.p) (rdn t.p) 64 L Uu = (xh, Rh) := ⟨_, _, rfl⟩
            have HXh : Hid (hlv (hs t.p) (rdn t.p) 64 l u = (xh, Rh)) := by rw [HE2.out.1, HE2.out.2.1]; exact hxh
            rw [hxh] at HX2
            clear hxh
            have hk64 : k ≤ 64 := by omega
            clear g4 g5 g6 HE2
            go_wp2_with fail
            go_loopw [8, 9] (fun lw hw wr => ∃ (f : Nat) (l2 u2 : Int) (r2 k2 : Nat), lw = .int .i64 l2 ∧ hw = .int .i64 u2 ∧ l ≤ l2 ∧ l2 ≤ u2 ∧ u2 ≤ u ∧ u2 - l2 ≤ 2 ^ f ∧ f + k2 = 64 ∧ Hid (Ry No w RT A P ka va ca cb G c t s (r1 + R + r2) (k + 1 + k2) wr ∧ (hlv (hs t.p) (rdn t.p) f l2 u2).1 = xh ∧ (hlv (hs t.p) (rdn t.p) f l2 u2).2 + r2 = Rh)) (fun lw hw _ => (intOf hw - intOf lw).toNat)
            case atStart => exact ⟨64, l, u, 0, 0, rfl, rfl, by omega, by omega, by omega, by omega, rfl, HK3.out, by rw [HXh.out], by rw [HXh.out]; rfl⟩
            case round =>
              obtain ⟨f2, l2, u2, r2, k2, rfl, rfl, j1, j2, j3, j4, j5, HR2⟩ := hrel
              clear HK3 HXh
              have hw0 : IntKind.i64.wrap (u2 - l2) = u2 - l2 := by rw [IntKind.wrap_i64]; omega
              by_cases q : 1 < u2 - l2
              · cases f2 with
                | zero => exfalso; simp at j4; omega
                | succ f2 =>
                  have hp : (2 : Int) ^ (f2 + 1) = 2 * 2 ^ f2 := by rw [Int.pow_succ]; omega
                  have hd : (u2 - l2).tdiv 2 = (u2 - l2) / 2 := by rw [Int.tdiv_eq_ediv_of_nonneg (by omega)]
                  have hw1 : IntKind.i64.wrap ((u2 - l2) / 2) = (u2 - l2) / 2 := by rw [IntKind.wrap_i64]; omega
                  have hw2 : IntKind.i64.wrap (l2 + (u2 - l2) / 2) = l2 + (u2 - l2) / 2 := by rw [IntKind.wrap_i64]; omega
                  obtain ⟨m, hm⟩ : ∃ m, l2 + (u2 - l2) / 2 = m := ⟨_, rfl⟩
                  have C := HA.out _ _ wr m (by omega) (by omega) (by omega) HR2.out.1
                  have HE : Hid (hlv (hs t.p) (rdn t.p) (f2 + 1) l2 u2 = if hs t.p m then ((hlv (hs t.p) (rdn t.p) f2 m u2).1, (hlv (hs t.p) (rdn t.p) f2 m u2).2 + rdn t.p m) else ((hlv (hs t.p) (rdn t.p) f2 l2 m).1, (hlv (hs t.p) (rdn t.p) f2 l2 m).2 + rdn t.p m)) := by
                    show _ = _
                    rw [hlv, if_pos q, hm]
                  have HM : Hid (l2 < m ∧ m < u2 ∧ u2 - m ≤ 2 ^ f2 ∧ m - l2 ≤ 2 ^ f2) := ⟨by omega, by omega, by omega, by omega⟩
                  have HMm : Hid (l2 + (u2 - l2) / 2 = m) := hm
                  clear hp hm
                  cases hPm : hs t.p m with
                  | true =>
                    rw [hPm] at C
                    have HQ2 : Hid ((hlv (hs t.p) (rdn t.p) f2 m u2).1 = xh ∧ (hlv (hs t.p) (rdn t.p) f2 m u2).2 + (r2 + rdn t.p m) = Rh) := by
                      obtain ⟨_, q1, q2⟩ := HR2.out
                      rw [HE.out, if_pos hPm] at q1 q2
                      exact ⟨q1, by simp only at q2; omega⟩
                    clear HE hPm
                    go_wp2_with fail
                    rw [HMm.out]
                    refine C.mono ?_; rintro e w1 ⟨rfl, k1⟩
                    have HK4 : Hid (Ry No w RT A P ka va ca cb G c t s (r1 + R + (r2 + rdn t.p m)) (k + 1 + (k2 + 1)) w1) := by rw [← Nat.add_assoc, ← Nat.add_assoc (k + 1)]; exact k1
                    clear C k1 HR2
                    go_wp2_with fail
                    go_round
                    case rel => exact ⟨f2, m, u2, r2 + rdn t.p m, k2 + 1, rfl, rfl, by have := HM.out; omega, by have := HM.out; omega, j3, HM.out.2.2.1, by omega, HK4.out, HQ2.out⟩
                    case measure => have := HM.out; simp [intOf]; omega
                  | false =>
                    rw [hPm] at C
                    have HQ2 : Hid ((hlv (hs t.p) (rdn t.p) f2 l2 m).1 = xh ∧ (hlv (hs t.p) (rdn t.p) f2 l2 m).2 + (r2 + rdn t.p m) = Rh) := by
                      obtain ⟨_, q1, q2⟩ := HR2.out
                      rw [HE.out, if_neg (by simp [hPm])] at q1 q2
                      exact ⟨q1, by simp only at q2; omega⟩
                    clear HE hPm
                    go_wp2_with fail
                    rw [HMm.out]
                    refine C.mono ?_; rintro e w1 ⟨rfl, k1⟩
                    have HK4 : Hid (Ry No w RT A P ka va ca cb G c t s (r1 + R + (r2 + rdn t.p m)) (k + 1 + (k2 + 1)) w1) := by rw [← Nat.add_assoc, ← Nat.add_assoc (k + 1)]; exact k1
                    clear C k1 HR2
                    go_wp2_with fail
                    go_round
                    case rel => exact ⟨f2, l2, m, r2 + rdn t.p m, k2 + 1, rfl, rfl, j1, by have := HM.out; omega, by have := HM.out; omega, HM.out.2.2.2, by omega, HK4.out, HQ2.out⟩
                    case measure => have := HM.out; simp [intOf]; omega
              · have HE : Hid (hlv (hs t.p) (rdn t.p) f2 l2 u2 = (l2, 0)) := by
                  show _ = _
                  cases f2 with
                  | zero => rfl
                  | succ f2 => rw [hlv, if_neg q]
                have HK5 : Hid _ := HD.out _ _ _ (by omega) HR2.out.1
                have HZ : Hid (l2 = xh ∧ r2 = Rh) := by
                  obtain ⟨_, q1, q2⟩ := HR2.out
                  rw [HE.out] at q1 q2
                  exact ⟨q1, by simp only at q2; omega⟩
                clear HE HR2
                go_wp2_with fail
                go_ret
                rw [← HX2.out]
                obtain ⟨z1, z2⟩ := HZ.out
                have := HK5.out
                rw [z2] at this
                rw [z1]
                exact ⟨rfl, this⟩
end
end Go.Proofs.YtoomlihccniooaaGreat

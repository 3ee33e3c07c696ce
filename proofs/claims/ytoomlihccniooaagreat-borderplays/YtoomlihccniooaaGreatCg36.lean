/- The walk of the reference's Len, in the array. The numbers of the seat of BorderPlays. -/
import Derived.Test.YtoomlihccniooaaGreatCg34
namespace Go.Proofs.YtoomlihccniooaaGreat
open Go.RowKit
section
variable {No : Nat → Prop} {w : World} {RT A P ka va ca : Nat} {cb : Nat → Nat} {G c : Nat} {t : TS} {s : H.St}
set_option maxRecDepth 20000 in
set_option maxHeartbeats 8000000 in
theorem rlen_in (h : RQ No w RT A P ka va ca cb G c t s) (hh : 0 ≤ t.hint ∧ t.hint ≤ (t.p.n : Int)) (hn0 : t.p.n ≠ 0) (hsn : sl t.p t.p.n = false) :
    Calls Tryz.prog 10 #[.pointer (some ⟨RT, 0, none⟩)] w fun e w' => e = .returned (.int .i64 (inAr t)) ∧ RQ No w' RT A P ka va ca cb G (c + 130) (tHint t (inAr t)) s ∧ Keep No w w' := by
  have HQ : Hid (RQ No w RT A P ka va ca cb G c t s) := h
  have hle := h.ti.le
  have c0 := h.rb.c0
  have c4 := h.rb.c4
  obtain ⟨hh0, hh1⟩ := hh
  have hn1 : (0 : Int) < (t.p.n : Int) := by omega
  have hwh : IntKind.i64.wrap (t.hint + 1) = t.hint + 1 := by rw [IntKind.wrap_i64]; omega
  obtain ⟨x, hx⟩ : ∃ x, inAr t = x := ⟨_, rfl⟩
  rw [hx]
  have HI : Hid (inAr t = x) := hx
  clear h hx
  go_enter Tryz.func10, Tryz.ntmps10
  go_wp2_with fail
  go_cut [3, 4] from 11 to 19 (fun av hv wx => av = .int .i64 (t.p.n : Nat) ∧ hv = .int .i64 t.hint ∧ Hid (Below w.heap.size w wx))
  case first =>
    go_region
    all_goals
      go_wp2_with fail
      go_meet
      exact ⟨rfl, rfl, bdrew1 w⟩
  case rest =>
    obtain ⟨rfl, rfl, HBx⟩ := hcut
    obtain ⟨U, hU⟩ : ∃ U, U = wc := ⟨_, rfl⟩
    rw [← hU] at HBx ⊢
    clear hU c0 c4
    have HS : Hid (∀ i : Int, 1 ≤ i → i ≤ (t.p.n : Int) → Calls Tryz.prog 42 #[.pointer (some ⟨RT, 0, none⟩), .int .i64 i] U fun e w' => e = .returned (.bool (sl t.p i)) ∧ w' = U) := fun i g0 g1 => rslot_any (HQ.out.rb.below HBx.out) hle i g0 g1
    have HH : Hid (∀ n : Int, Calls Tryz.prog 16 #[.pointer (some ⟨RT, 0, none⟩), .int .i64 n] U fun e w' => e = .returned (.tuple #[]) ∧ RQ No w' RT A P ka va ca cb G (c + 130) (tHint t n) s ∧ Keep No w w') := fun n => (rhint_any (HQ.out.below HBx.out) n).mono fun e w' hh => ⟨hh.1, hh.2.1.more (by omega), (Keep.of HBx.out).trans hh.2.2⟩
    have CN := HS.out (t.p.n : Nat) (by omega) (by omega)
    rw [hsn] at CN
    by_cases a1 : 0 < t.hint
    · have CA := HS.out t.hint (by omega) hh1
      have gz : (t.hint == 0) = false := by simp; omega
      cases e1 : sl t.p t.hint with
      | false =>
        rw [e1] at CA
        have HX : Hid ((hlv (sl t.p) (fun _ => 0) 64 0 t.hint).1 = x) := by have := HI.out; unfold inAr at this; rw [if_pos ⟨a1, e1⟩] at this; exact this
        by_cases a2 : t.hint < (t.p.n : Int)
        · have CB := HS.out (t.hint + 1) (by omega) (by omega)
          cases e2 : sl t.p (t.hint + 1) with
          | false =>
            rw [e2] at CB
            have CA2 := CA
            go_wp2_with fail
            refine CN.mono ?_; rintro e w1 ⟨rfl, hw⟩; rw [hw]; clear hw CN
            go_wp2_with fail
            refine CB.mono ?_; rintro e w1 ⟨rfl, hw⟩; rw [hw]; clear hw CB
            go_wp2_with fail
            refine CA.mono ?_; rintro e w1 ⟨rfl, hw⟩; rw [hw]; clear hw CA
            go_wp2_with fail
            refine CA2.mono ?_; rintro e w1 ⟨rfl, hw⟩; rw [hw]; clear hw CA2
            go_wp2_with fail
            go_loopw [5, 6] (fun lw uw wr => ∃ (f : Nat) (l u : Int), lw = .int .i64 l ∧ uw = .int .i64 u ∧ 0 ≤ l ∧ l ≤ u ∧ u ≤ (t.p.n : Int) ∧ u - l ≤ 2 ^ f ∧ wr = U ∧ Hid ((hlv (sl t.p) (fun _ => 0) f l u).1 = x)) (fun lw uw _ => (intOf uw - intOf lw).toNat)
            case atStart => exact ⟨64, 0, t.hint, rfl, rfl, by omega, by omega, by omega, by omega, rfl, HX⟩
            case round =>
              obtain ⟨f, l, u, rfl, rfl, g1, g2, g3, g4, rfl, HR⟩ := hrel
              clear HX
              have hw0 : IntKind.i64.wrap (u - l) = u - l := by rw [IntKind.wrap_i64]; omega
              by_cases q : 1 < u - l
              · cases f with
                | zero => exfalso; simp at g4; omega
                | succ f =>
                  have hp : (2 : Int) ^ (f + 1) = 2 * 2 ^ f := by rw [Int.pow_succ]; omega
                  have hw1 : IntKind.i64.wrap (l + u) = l + u := by rw [IntKind.wrap_i64]; omega
                  have hd : (l + u).tdiv 2 = (l + u) / 2 := by rw [Int.tdiv_eq_ediv_of_nonneg (by omega)]
                  have hm2 : l + (u - l) / 2 = (l + u) / 2 := by omega
                  have hw2 : IntKind.i64.wrap ((l + u) / 2) = (l + u) / 2 := by rw [IntKind.wrap_i64]; omega
                  obtain ⟨m, hm⟩ : ∃ m, (l + u) / 2 = m := ⟨_, rfl⟩
                  have HM : Hid (l < m ∧ m < u ∧ u - m ≤ 2 ^ f ∧ m - l ≤ 2 ^ f) := ⟨by omega, by omega, by omega, by omega⟩
                  have C := HS.out m (by omega) (by omega)
                  have HE : Hid ((hlv (sl t.p) (fun _ => 0) (f + 1) l u).1 = if sl t.p m then (hlv (sl t.p) (fun _ => 0) f m u).1 else (hlv (sl t.p) (fun _ => 0) f l m).1) := by
                    show _ = _
                    rw [hlv, if_pos q, hm2, hm]
                    split <;> rfl
                  rw [hm] at hd hw2
                  clear hm hm2 hp
                  cases hPm : sl t.p m with
                  | true =>
                    rw [hPm] at C
                    have HQ : Hid ((hlv (sl t.p) (fun _ => 0) f m u).1 = x) := by have := HR.out; rw [HE.out, hPm, if_pos rfl] at this; exact this
                    clear HE HR hPm
                    go_wp2_with fail
                    refine C.mono ?_; rintro e w1 ⟨rfl, hw⟩; rw [hw]; clear hw C
                    go_wp2_with fail
                    go_round
                    case rel => exact ⟨f, m, u, rfl, rfl, by have := HM.out; omega, by have := HM.out; omega, g3, HM.out.2.2.1, by trivial, HQ⟩
                    case measure => have := HM.out; simp [intOf]; omega
                  | false =>
                    rw [hPm] at C
                    have HQ : Hid ((hlv (sl t.p) (fun _ => 0) f l m).1 = x) := by have := HR.out; rw [HE.out, hPm, if_neg (by simp)] at this; exact this
                    clear HE HR hPm
                    go_wp2_with fail
                    refine C.mono ?_; rintro e w1 ⟨rfl, hw⟩; rw [hw]; clear hw C
                    go_wp2_with fail
                    go_round
                    case rel => exact ⟨f, l, m, rfl, rfl, g1, by have := HM.out; omega, by have := HM.out; omega, HM.out.2.2.2, by trivial, HQ⟩
                    case measure => have := HM.out; simp [intOf]; omega
              · have HE : Hid (l = x) := by
                  have := HR.out
                  cases f with
                  | zero => exact this
                  | succ f => rw [hlv, if_neg q] at this; exact this
                have CH := HH.out l
                clear HR
                go_wp2_with fail
                refine CH.mono ?_; rintro e w1 ⟨rfl, q1⟩
                have HQ1 : Hid _ := q1
                clear CH q1
                go_wp2_with fail
                go_ret
                rw [← HE.out]
                exact ⟨rfl, HQ1.out⟩
          | true =>
            rw [e2] at CB
            go_wp2_with fail
            refine CN.mono ?_; rintro e w1 ⟨rfl, hw⟩; rw [hw]; clear hw CN
            go_wp2_with fail
            refine CB.mono ?_; rintro e w1 ⟨rfl, hw⟩; rw [hw]; clear hw CB
            go_wp2_with fail
            refine CA.mono ?_; rintro e w1 ⟨rfl, hw⟩; rw [hw]; clear hw CA
            go_wp2_with fail
            go_loopw [5, 6] (fun lw uw wr => ∃ (f : Nat) (l u : Int), lw = .int .i64 l ∧ uw = .int .i64 u ∧ 0 ≤ l ∧ l ≤ u ∧ u ≤ (t.p.n : Int) ∧ u - l ≤ 2 ^ f ∧ wr = U ∧ Hid ((hlv (sl t.p) (fun _ => 0) f l u).1 = x)) (fun lw uw _ => (intOf uw - intOf lw).toNat)
            case atStart => exact ⟨64, 0, t.hint, rfl, rfl, by omega, by omega, by omega, by omega, rfl, HX⟩
            case round =>
              obtain ⟨f, l, u, rfl, rfl, g1, g2, g3, g4, rfl, HR⟩ := hrel
              clear HX
              have hw0 : IntKind.i64.wrap (u - l) = u - l := by rw [IntKind.wrap_i64]; omega
              by_cases q : 1 < u - l
              · cases f with
                | zero => exfalso; simp at g4; omega
                | succ f =>
                  have hp : (2 : Int) ^ (f + 1) = 2 * 2 ^ f := by rw [Int.pow_succ]; omega
                  have hw1 : IntKind.i64.wrap (l + u) = l + u := by rw [IntKind.wrap_i64]; omega
                  have hd : (l + u).tdiv 2 = (l + u) / 2 := by rw [Int.tdiv_eq_ediv_of_nonneg (by omega)]
                  have hm2 : l + (u - l) / 2 = (l + u) / 2 := by omega
                  have hw2 : IntKind.i64.wrap ((l + u) / 2) = (l + u) / 2 := by rw [IntKind.wrap_i64]; omega
                  obtain ⟨m, hm⟩ : ∃ m, (l + u) / 2 = m := ⟨_, rfl⟩
                  have HM : Hid (l < m ∧ m < u ∧ u - m ≤ 2 ^ f ∧ m - l ≤ 2 ^ f) := ⟨by omega, by omega, by omega, by omega⟩
                  have C := HS.out m (by omega) (by omega)
                  have HE : Hid ((hlv (sl t.p) (fun _ => 0) (f + 1) l u).1 = if sl t.p m then (hlv (sl t.p) (fun _ => 0) f m u).1 else (hlv (sl t.p) (fun _ => 0) f l m).1) := by
                    show _ = _
                    rw [hlv, if_pos q, hm2, hm]
                    split <;> rfl
                  rw [hm] at hd hw2
                  clear hm hm2 hp
                  cases hPm : sl t.p m with
                  | true =>
                    rw [hPm] at C
                    have HQ : Hid ((hlv (sl t.p) (fun _ => 0) f m u).1 = x) := by have := HR.out; rw [HE.out, hPm, if_pos rfl] at this; exact this
                    clear HE HR hPm
                    go_wp2_with fail
                    refine C.mono ?_; rintro e w1 ⟨rfl, hw⟩; rw [hw]; clear hw C
                    go_wp2_with fail
                    go_round
                    case rel => exact ⟨f, m, u, rfl, rfl, by have := HM.out; omega, by have := HM.out; omega, g3, HM.out.2.2.1, by trivial, HQ⟩
                    case measure => have := HM.out; simp [intOf]; omega
                  | false =>
                    rw [hPm] at C
                    have HQ : Hid ((hlv (sl t.p) (fun _ => 0) f l m).1 = x) := by have := HR.out; rw [HE.out, hPm, if_neg (by simp)] at this; exact this
                    clear HE HR hPm
                    go_wp2_with fail
                    refine C.mono ?_; rintro e w1 ⟨rfl, hw⟩; rw [hw]; clear hw C
                    go_wp2_with fail
                    go_round
                    case rel => exact ⟨f, l, m, rfl, rfl, g1, by have := HM.out; omega, by have := HM.out; omega, HM.out.2.2.2, by trivial, HQ⟩
                    case measure => have := HM.out; simp [intOf]; omega
              · have HE : Hid (l = x) := by
                  have := HR.out
                  cases f with
                  | zero => exact this
                  | succ f => rw [hlv, if_neg q] at this; exact this
                have CH := HH.out l
                clear HR
                go_wp2_with fail
                refine CH.mono ?_; rintro e w1 ⟨rfl, q1⟩
                have HQ1 : Hid _ := q1
                clear CH q1
                go_wp2_with fail
                go_ret
                rw [← HE.out]
                exact ⟨rfl, HQ1.out⟩
        · go_wp2_with fail
          refine CN.mono ?_; rintro e w1 ⟨rfl, hw⟩; rw [hw]; clear hw CN
          go_wp2_with fail
          refine CA.mono ?_; rintro e w1 ⟨rfl, hw⟩; rw [hw]; clear hw CA
          go_wp2_with fail
          go_loopw [5, 6] (fun lw uw wr => ∃ (f : Nat) (l u : Int), lw = .int .i64 l ∧ uw = .int .i64 u ∧ 0 ≤ l ∧ l ≤ u ∧ u ≤ (t.p.n : Int) ∧ u - l ≤ 2 ^ f ∧ wr = U ∧ Hid ((hlv (sl t.p) (fun _ => 0) f l u).1 = x)) (fun lw uw _ => (intOf uw - intOf lw).toNat)
          case atStart => exact ⟨64, 0, t.hint, rfl, rfl, by omega, by omega, by omega, by omega, rfl, HX⟩
          case round =>
            obtain ⟨f, l, u, rfl, rfl, g1, g2, g3, g4, rfl, HR⟩ := hrel
            clear HX
            have hw0 : IntKind.i64.wrap (u - l) = u - l := by rw [IntKind.wrap_i64]; omega
            by_cases q : 1 < u - l
            · cases f with
              | zero => exfalso; simp at g4; omega
              | succ f =>
                have hp : (2 : Int) ^ (f + 1) = 2 * 2 ^ f := by rw [Int.pow_succ]; omega
                have hw1 : IntKind.i64.wrap (l + u) = l + u := by rw [IntKind.wrap_i64]; omega
                have hd : (l + u).tdiv 2 = (l + u) / 2 := by rw [Int.tdiv_eq_ediv_of_nonneg (by omega)]
                have hm2 : l + (u - l) / 2 = (l + u) / 2 := by omega
                have hw2 : IntKind.i64.wrap ((l + u) / 2) = (l + u) / 2 := by rw [IntKind.wrap_i64]; omega
                obtain ⟨m, hm⟩ : ∃ m, (l + u) / 2 = m := ⟨_, rfl⟩
                have HM : Hid (l < m ∧ m < u ∧ u - m ≤ 2 ^ f ∧ m - l ≤ 2 ^ f) := ⟨by omega, by omega, by omega, by omega⟩
                have C := HS.out m (by omega) (by omega)
                have HE : Hid ((hlv (sl t.p) (fun _ => 0) (f + 1) l u).1 = if sl t.p m then (hlv (sl t.p) (fun _ => 0) f m u).1 else (hlv (sl t.p) (fun _ => 0) f l m).1) := by
                  show _ = _
                  rw [hlv, if_pos q, hm2, hm]
                  split <;> rfl
                rw [hm] at hd hw2
                clear hm hm2 hp
                cases hPm : sl t.p m with
                | true =>
                  rw [hPm] at C
                  have HQ : Hid ((hlv (sl t.p) (fun _ => 0) f m u).1 = x) := by have := HR.out; rw [HE.out, hPm, if_pos rfl] at this; exact this
                  clear HE HR hPm
                  go_wp2_with fail
                  refine C.mono ?_; rintro e w1 ⟨rfl, hw⟩; rw [hw]; clear hw C
                  go_wp2_with fail
                  go_round
                  case rel => exact ⟨f, m, u, rfl, rfl, by have := HM.out; omega, by have := HM.out; omega, g3, HM.out.2.2.1, by trivial, HQ⟩
                  case measure => have := HM.out; simp [intOf]; omega
                | false =>
                  rw [hPm] at C
                  have HQ : Hid ((hlv (sl t.p) (fun _ => 0) f l m).1 = x) := by have := HR.out; rw [HE.out, hPm, if_neg (by simp)] at this; exact this
                  clear HE HR hPm
                  go_wp2_with fail
                  refine C.mono ?_; rintro e w1 ⟨rfl, hw⟩; rw [hw]; clear hw C
                  go_wp2_with fail
                  go_round
                  case rel => exact ⟨f, l, m, rfl, rfl, g1, by have := HM.out; omega, by have := HM.out; omega, HM.out.2.2.2, by trivial, HQ⟩
                  case measure => have := HM.out; simp [intOf]; omega
            · have HE : Hid (l = x) := by
                have := HR.out
                cases f with
                | zero => exact this
                | succ f => rw [hlv, if_neg q] at this; exact this
              have CH := HH.out l
              clear HR
              go_wp2_with fail
              refine CH.mono ?_; rintro e w1 ⟨rfl, q1⟩
              have HQ1 : Hid _ := q1
              clear CH q1
              go_wp2_with fail
              go_ret
              rw [← HE.out]
              exact ⟨rfl, HQ1.out⟩
      | true =>
        rw [e1] at CA
        have a2 : t.hint < (t.p.n : Int) := by
          rcases Int.lt_or_eq_of_le hh1 with q | q
          · exact q
          · rw [q, hsn] at e1; cases e1
        have CB := HS.out (t.hint + 1) (by omega) (by omega)
        cases e2 : sl t.p (t.hint + 1) with
        | false =>
          rw [e2] at CB
          have HE : Hid (t.hint = x) := by have := HI.out; unfold inAr at this; rw [if_neg (by simp [e1]), if_pos e2] at this; exact this
          have CH := HH.out t.hint
          go_wp2_with fail
          refine CN.mono ?_; rintro e w1 ⟨rfl, hw⟩; rw [hw]; clear hw CN
          go_wp2_with fail
          refine CB.mono ?_; rintro e w1 ⟨rfl, hw⟩; rw [hw]; clear hw CB
          go_wp2_with fail
          refine CA.mono ?_; rintro e w1 ⟨rfl, hw⟩; rw [hw]; clear hw CA
          go_wp2_with fail
          refine CH.mono ?_; rintro e w1 ⟨rfl, q1⟩
          have HQ1 : Hid _ := q1
          clear CH q1
          go_wp2_with fail
          go_ret
          rw [← HE.out]
          exact ⟨rfl, HQ1.out⟩
        | true =>
          rw [e2] at CB
          have HX : Hid ((hlv (sl t.p) (fun _ => 0) 64 t.hint t.p.n).1 = x) := by have := HI.out; unfold inAr at this; rw [if_neg (by simp [e1]), if_neg (by simp [e2])] at this; exact this
          go_wp2_with fail
          refine CN.mono ?_; rintro e w1 ⟨rfl, hw⟩; rw [hw]; clear hw CN
          go_wp2_with fail
          refine CB.mono ?_; rintro e w1 ⟨rfl, hw⟩; rw [hw]; clear hw CB
          go_wp2_with fail
          refine CA.mono ?_; rintro e w1 ⟨rfl, hw⟩; rw [hw]; clear hw CA
          go_wp2_with fail
          go_loopw [5, 6] (fun lw uw wr => ∃ (f : Nat) (l u : Int), lw = .int .i64 l ∧ uw = .int .i64 u ∧ 0 ≤ l ∧ l ≤ u ∧ u ≤ (t.p.n : Int) ∧ u - l ≤ 2 ^ f ∧ wr = U ∧ Hid ((hlv (sl t.p) (fun _ => 0) f l u).1 = x)) (fun lw uw _ => (intOf uw - intOf lw).toNat)
          case atStart => exact ⟨64, t.hint, t.p.n, rfl, rfl, by omega, by omega, by omega, by omega, rfl, HX⟩
          case round =>
            obtain ⟨f, l, u, rfl, rfl, g1, g2, g3, g4, rfl, HR⟩ := hrel
            clear HX
            have hw0 : IntKind.i64.wrap (u - l) = u - l := by rw [IntKind.wrap_i64]; omega
            by_cases q : 1 < u - l
            · cases f with
              | zero => exfalso; simp at g4; omega
              | succ f =>
                have hp : (2 : Int) ^ (f + 1) = 2 * 2 ^ f := by rw [Int.pow_succ]; omega
                have hw1 : IntKind.i64.wrap (l + u) = l + u := by rw [IntKind.wrap_i64]; omega
                have hd : (l + u).tdiv 2 = (l + u) / 2 := by rw [Int.tdiv_eq_ediv_of_nonneg (by omega)]
                have hm2 : l + (u - l) / 2 = (l + u) / 2 := by omega
                have hw2 : IntKind.i64.wrap ((l + u) / 2) = (l + u) / 2 := by rw [IntKind.wrap_i64]; omega
                obtain ⟨m, hm⟩ : ∃ m, (l + u) / 2 = m := ⟨_, rfl⟩
                have HM : Hid (l < m ∧ m < u ∧ u - m ≤ 2 ^ f ∧ m - l ≤ 2 ^ f) := ⟨by omega, by omega, by omega, by omega⟩
                have C := HS.out m (by omega) (by omega)
                have HE : Hid ((hlv (sl t.p) (fun _ => 0) (f + 1) l u).1 = if sl t.p m then (hlv (sl t.p) (fun _ => 0) f m u).1 else (hlv (sl t.p) (fun _ => 0) f l m).1) := by
                  show _ = _
                  rw [hlv, if_pos q, hm2, hm]
                  split <;> rfl
                rw [hm] at hd hw2
                clear hm hm2 hp
                cases hPm : sl t.p m with
                | true =>
                  rw [hPm] at C
                  have HQ : Hid ((hlv (sl t.p) (fun _ => 0) f m u).1 = x) := by have := HR.out; rw [HE.out, hPm, if_pos rfl] at this; exact this
                  clear HE HR hPm
                  go_wp2_with fail
                  refine C.mono ?_; rintro e w1 ⟨rfl, hw⟩; rw [hw]; clear hw C
                  go_wp2_with fail
                  go_round
                  case rel => exact ⟨f, m, u, rfl, rfl, by have := HM.out; omega, by have := HM.out; omega, g3, HM.out.2.2.1, by trivial, HQ⟩
                  case measure => have := HM.out; simp [intOf]; omega
                | false =>
                  rw [hPm] at C
                  have HQ : Hid ((hlv (sl t.p) (fun _ => 0) f l m).1 = x) := by have := HR.out; rw [HE.out, hPm, if_neg (by simp)] at this; exact this
                  clear HE HR hPm
                  go_wp2_with fail
                  refine C.mono ?_; rintro e w1 ⟨rfl, hw⟩; rw [hw]; clear hw C
                  go_wp2_with fail
                  go_round
                  case rel => exact ⟨f, l, m, rfl, rfl, g1, by have := HM.out; omega, by have := HM.out; omega, HM.out.2.2.2, by trivial, HQ⟩
                  case measure => have := HM.out; simp [intOf]; omega
            · have HE : Hid (l = x) := by
                have := HR.out
                cases f with
                | zero => exact this
                | succ f => rw [hlv, if_neg q] at this; exact this
              have CH := HH.out l
              clear HR
              go_wp2_with fail
              refine CH.mono ?_; rintro e w1 ⟨rfl, q1⟩
              have HQ1 : Hid _ := q1
              clear CH q1
              go_wp2_with fail
              go_ret
              rw [← HE.out]
              exact ⟨rfl, HQ1.out⟩
    · have z0 : t.hint = 0 := by omega
      have a2 : t.hint < (t.p.n : Int) := by omega
      have gz : (t.hint == 0) = true := by simp [z0]
      have CB := HS.out (t.hint + 1) (by omega) (by omega)
      clear z0
      cases e2 : sl t.p (t.hint + 1) with
      | false =>
        rw [e2] at CB
        have HE : Hid (t.hint = x) := by have := HI.out; unfold inAr at this; rw [if_neg (by omega), if_pos e2] at this; exact this
        have CH := HH.out t.hint
        go_wp2_with fail
        refine CN.mono ?_; rintro e w1 ⟨rfl, hw⟩; rw [hw]; clear hw CN
        go_wp2_with fail
        refine CB.mono ?_; rintro e w1 ⟨rfl, hw⟩; rw [hw]; clear hw CB
        go_wp2_with fail
        refine CH.mono ?_; rintro e w1 ⟨rfl, q1⟩
        have HQ1 : Hid _ := q1
        clear CH q1
        go_wp2_with fail
        go_ret
        rw [← HE.out]
        exact ⟨rfl, HQ1.out⟩
      | true =>
        rw [e2] at CB
        have HX : Hid ((hlv (sl t.p) (fun _ => 0) 64 t.hint t.p.n).1 = x) := by have := HI.out; unfold inAr at this; rw [if_neg (by omega), if_neg (by simp [e2])] at this; exact this
        go_wp2_with fail
        refine CN.mono ?_; rintro e w1 ⟨rfl, hw⟩; rw [hw]; clear hw CN
        go_wp2_with fail
        refine CB.mono ?_; rintro e w1 ⟨rfl, hw⟩; rw [hw]; clear hw CB
        go_wp2_with fail
        go_loopw [5, 6] (fun lw uw wr => ∃ (f : Nat) (l u : Int), lw = .int .i64 l ∧ uw = .int .i64 u ∧ 0 ≤ l ∧ l ≤ u ∧ u ≤ (t.p.n : Int) ∧ u - l ≤ 2 ^ f ∧ wr = U ∧ Hid ((hlv (sl t.p) (fun _ => 0) f l u).1 = x)) (fun lw uw _ => (intOf uw - intOf lw).toNat)
        case atStart => exact ⟨64, t.hint, t.p.n, rfl, rfl, by omega, by omega, by omega, by omega, rfl, HX⟩
        case round =>
          obtain ⟨f, l, u, rfl, rfl, g1, g2, g3, g4, rfl, HR⟩ := hrel
          clear HX
          have hw0 : IntKind.i64.wrap (u - l) = u - l := by rw [IntKind.wrap_i64]; omega
          by_cases q : 1 < u - l
          · cases f with
            | zero => exfalso; simp at g4; omega
            | succ f =>
              have hp : (2 : Int) ^ (f + 1) = 2 * 2 ^ f := by rw [Int.pow_succ]; omega
              have hw1 : IntKind.i64.wrap (l + u) = l + u := by rw [IntKind.wrap_i64]; omega
              have hd : (l + u).tdiv 2 = (l + u) / 2 := by rw [Int.tdiv_eq_ediv_of_nonneg (by omega)]
              have hm2 : l + (u - l) / 2 = (l + u) / 2 := by omega
              have hw2 : IntKind.i64.wrap ((l + u) / 2) = (l + u) / 2 := by rw [IntKind.wrap_i64]; omega
              obtain ⟨m, hm⟩ : ∃ m, (l + u) / 2 = m := ⟨_, rfl⟩
              have HM : Hid (l < m ∧ m < u ∧ u - m ≤ 2 ^ f ∧ m - l ≤ 2 ^ f) := ⟨by omega, by omega, by omega, by omega⟩
              have C := HS.out m (by omega) (by omega)
              have HE : Hid ((hlv (sl t.p) (fun _ => 0) (f + 1) l u).1 = if sl t.p m then (hlv (sl t.p) (fun _ => 0) f m u).1 else (hlv (sl t.p) (fun _ => 0) f l m).1) := by
                show _ = _
                rw [hlv, if_pos q, hm2, hm]
                split <;> rfl
              rw [hm] at hd hw2
              clear hm hm2 hp
              cases hPm : sl t.p m with
              | true =>
                rw [hPm] at C
                have HQ : Hid ((hlv (sl t.p) (fun _ => 0) f m u).1 = x) := by have := HR.out; rw [HE.out, hPm, if_pos rfl] at this; exact this
                clear HE HR hPm
                go_wp2_with fail
                refine C.mono ?_; rintro e w1 ⟨rfl, hw⟩; rw [hw]; clear hw C
                go_wp2_with fail
                go_round
                case rel => exact ⟨f, m, u, rfl, rfl, by have := HM.out; omega, by have := HM.out; omega, g3, HM.out.2.2.1, by trivial, HQ⟩
                case measure => have := HM.out; simp [intOf]; omega
              | false =>
                rw [hPm] at C
                have HQ : Hid ((hlv (sl t.p) (fun _ => 0) f l m).1 = x) := by have := HR.out; rw [HE.out, hPm, if_neg (by simp)] at this; exact this
                clear HE HR hPm
                go_wp2_with fail
                refine C.mono ?_; rintro e w1 ⟨rfl, hw⟩; rw [hw]; clear hw C
                go_wp2_with fail
                go_round
                case rel => exact ⟨f, l, m, rfl, rfl, g1, by have := HM.out; omega, by have := HM.out; omega, HM.out.2.2.2, by trivial, HQ⟩
                case measure => have := HM.out; simp [intOf]; omega
          · have HE : Hid (l = x) := by
              have := HR.out
              cases f with
              | zero => exact this
              | succ f => rw [hlv, if_neg q] at this; exact this
            have CH := HH.out l
            clear HR
            go_wp2_with fail
            refine CH.mono ?_; rintro e w1 ⟨rfl, q1⟩
            have HQ1 : Hid _ := q1
            clear CH q1
            go_wp2_with fail
            go_ret
            rw [← HE.out]
            exact ⟨rfl, HQ1.out⟩
end
end Go.Proofs.YtoomlihccniooaaGreat

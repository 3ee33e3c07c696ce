/- The walk of nextRow. -/
import Derived.Test.YtcaaaoehipcloaaGreatCg18
import Derived.BigRegion
import Derived.Deep.DeepCutAuto
namespace Go.Proofs.YtcaaaoehipcloaaGreat
open Go.RowKit

def wlen (w : World) (B : Nat) : Nat := match w.cell? ⟨B, 3, none⟩ with | some (.slice _ n _) => n | _ => 0
theorem So.form {No : Nat → Prop} {w : World} {B : Nat} {wv : Value} {T A b a S hb c : Nat} {d : SD} (h : So No w B wv T A b a S hb c d) : ∃ (ad : Option Addr) (cap : Nat), wv = .slice ad d.1.wt.length cap := by
  rcases h.row.2 with ⟨e, h2⟩ | ⟨g, cap, cur, e, _⟩
  · exact ⟨none, 0, by rw [e, h2]⟩
  · exact ⟨_, cap, e⟩
theorem So.wlen {No : Nat → Prop} {w : World} {B : Nat} {wv : Value} {T A b a S hb c : Nat} {d : SD} (h : So No w B wv T A b a S hb c d) : YtcaaaoehipcloaaGreat.wlen w B = d.1.wt.length := by
  obtain ⟨ad, cap, e⟩ := h.form
  have c3 : w.cell? ⟨B, 3, none⟩ = some wv := h.cell (j := 3) rfl
  unfold YtcaaaoehipcloaaGreat.wlen
  rw [c3, e]
/-- The rows are such that one may reckon with their ends. -/
def Bdr (s : SS) : Prop := ∀ r ∈ (s.lo, s.up) :: s.wt, r.1 < r.2 → -4611686018427387904 ≤ r.1 ∧ r.2 ≤ 4611686018427387904
theorem nrow_some {s : SS} {t : TS × H.St} (h : s.lo < s.up) : nrow (s, t) = (askD ({ (rdD (rdD (s, t) s.lo) s.up).1 with x := rdV (s, t) s.lo, y := rdV (rdD (s, t) s.lo) s.up }, (rdD (rdD (s, t) s.lo) s.up).2) 1, askT (rdV (rdD (s, t) s.lo) s.up) (rdV (s, t) s.lo)) := by
  unfold nrow
  have e : pop s.lo s.up s.wt = some ((s.lo, s.up), s.wt) := by
    cases s.wt with
    | nil => unfold pop; rw [if_pos h]
    | cons r l => unfold pop; rw [if_pos h]
  simp only [e]
theorem nrow_end {s : SS} {t : TS × H.St} (h : ¬ s.lo < s.up) (hw : s.wt = []) : nrow (s, t) = (endD (s, t) 0, endT 0) := by
  unfold nrow
  have e : pop s.lo s.up s.wt = none := by rw [hw]; unfold pop; rw [if_neg h]
  simp only [e]
theorem nrow_next {s : SS} {t : TS × H.St} (h : ¬ s.lo < s.up) {r : Int × Int} {l : List (Int × Int)} (hw : s.wt = r :: l) : nrow (s, t) = nrow ({ s with lo := r.1, up := r.2, wt := l }, t) := by
  unfold nrow
  have e : pop s.lo s.up s.wt = pop r.1 r.2 l := by rw [hw]; conv => lhs; unfold pop; rw [if_neg h]
  simp only [e]
  cases pop r.1 r.2 l with
  | none => rfl
  | some q => rfl
theorem Sk.rd0 {N2 : Nat → Prop} {W0 w : World} {B : Nat} {wv : Value} {T A b a S hb c : Nat} {d : SD} (h : Sk N2 W0 w B wv T A b a S hb c d) (hc : c ≤ 900000) (n : Int) (h1 : -9223372036854775808 ≤ n) (h2 : n ≤ 9223372036854775807) :
    Calls Tryz.prog 70 #[.pointer (some ⟨B, 0, none⟩), .int .i64 n] w fun e w' => e = .returned (.agg #[.int .i64 (rdV d n).1, .int .i64 (rdV d n).2.1, .string (rdV d n).2.2]) ∧ Sk N2 W0 w' B wv T A b a S hb (c + 1) (rdD d n) :=
  (read_any h.so hc n h1 h2).mono fun _ _ hh => ⟨hh.1, hh.2.1, h.kp.trans (hh.2.2.sub (fun _ q => .inl q))⟩
theorem Sk.ask0 {N2 : Nat → Prop} {W0 w : World} {B : Nat} {wv : Value} {T A b a S hb c : Nat} {d : SD} (h : Sk N2 W0 w B wv T A b a S hb c d) (k : Int) (v u : V) :
    Calls Tryz.prog 71 #[.pointer (some ⟨B, 0, none⟩), .int .i64 k, .agg #[.int .i64 v.1, .int .i64 v.2.1, .string v.2.2], .agg #[.int .i64 u.1, .int .i64 u.2.1, .string u.2.2]] w.drew fun e w' => e = .returned (tolV (askT v u)) ∧ Sk N2 W0 w' B wv T A b a S hb c (askD d k) :=
  (ask_any (h.below (bdrew1 w)).so k v u).mono fun _ _ hh => ⟨hh.1, hh.2.1, (h.below (bdrew1 w)).kp.trans hh.2.2⟩
set_option maxRecDepth 20000 in
set_option maxHeartbeats 4000000 in
theorem nrow_any {No : Nat → Prop} {w : World} {B : Nat} {wv : Value} {T A b a S hb c : Nat} {d : SD} (h : So No w B wv T A b a S hb c d) (hc : c ≤ 800000) (hr : Bdr d.1) :
    Calls Tryz.prog 48 #[.pointer (some ⟨B, 0, none⟩)] w (GP No w B T S hb (c + 2) (nrow d)) := by
  obtain ⟨N2, s0, HF0⟩ := h.tell2
  have HF : Hid _ := HF0
  obtain ⟨W0, hW0⟩ : ∃ W0, w.alloc z8 = W0 := ⟨_, rfl⟩
  rw [hW0] at HF s0
  unfold z8 at hW0
  obtain ⟨R, hR⟩ : ∃ R, nrow d = R := ⟨_, rfl⟩
  rw [hR]
  have HS : Hid (∃ (s' : SS) (wv' : Value), Sk N2 W0 W0 B wv' T A b a S hb c (s', d.2) ∧ nrow (s', d.2) = R ∧ Bdr s') := ⟨d.1, wv, s0, hR, hr⟩
  unfold GP
  clear HF0 h s0 hR hr
  go_enter Tryz.func48, Tryz.ntmps48
  go_wp2
  go_loopw [] (fun wr => Hid (∃ (s' : SS) (wv' : Value), Sk N2 W0 wr B wv' T A b a S hb c (s', d.2) ∧ nrow (s', d.2) = R ∧ Bdr s')) (fun wr => wlen wr B)
  case atStart => exact HS
  case round =>
    clear HS
    obtain ⟨s', wv', K, hN, hb'⟩ := hrel.out
    clear hrel
    have c1 : wr.cell? ⟨B, 1, none⟩ = some (.int .i64 s'.lo) := K.so.cell (j := 1) rfl
    have c2 : wr.cell? ⟨B, 2, none⟩ = some (.int .i64 s'.up) := K.so.cell (j := 2) rfl
    have c3 : wr.cell? ⟨B, 3, none⟩ = some wv' := K.so.cell (j := 3) rfl
    have hm := K.so.wlen
    have HN : Hid (nrow (s', d.2) = R) := hN
    have HB : Hid (Bdr s') := hb'
    clear hN hb'
    by_cases hlt : s'.lo < s'.up
    · have hge : ¬ s'.up ≤ s'.lo := by omega
      go_wp2_with fail
      go_quiet (fail)
      go_wp2_with fail
      have hbd := HB.out (s'.lo, s'.up) (List.mem_cons_self ..) hlt
      simp only at hbd
      have HR : Hid (R = _) := HN.out.symm.trans (nrow_some hlt)
      have C1 := fun m => K.rd (by omega) s'.lo (by omega) (by omega) m
      obtain ⟨x, hx⟩ : ∃ x, rdV (s', d.2) s'.lo = x := ⟨_, rfl⟩
      obtain ⟨y, hy⟩ : ∃ y, rdV (rdD (s', d.2) s'.lo) s'.up = y := ⟨_, rfl⟩
      rw [hx] at C1 HR
      rw [hy] at HR
      have HC2 : Hid (∀ w2, Sk N2 W0 w2 B wv' T A b a S hb (c + 1) (rdD (s', d.2) s'.lo) → Calls Tryz.prog 70 #[.pointer (some ⟨B, 0, none⟩), .int .i64 s'.up] w2 fun e w' => e = .returned (.agg #[.int .i64 y.1, .int .i64 y.2.1, .string y.2.2]) ∧ Sk N2 W0 w' B wv' T A b a S hb (c + 1 + 1) (rdD (rdD (s', d.2) s'.lo) s'.up)) := fun w2 k2 => (by
        have := k2.rd0 (by omega) s'.up (by omega) (by omega)
        rw [hy] at this
        exact this)
      clear HN HB hx hy K hm hge hlt
      go_cut [] (fun wx => Sk N2 W0 wx B wv' T A b a S hb (c + 2) ({ (rdD (rdD (s', d.2) s'.lo) s'.up).1 with x := x, y := y }, (rdD (rdD (s', d.2) s'.lo) s'.up).2))
      case first =>
        go_region_with (first
          | (go_at_call 70; (fail_if_success (have kz := k2)); refine (C1 _).mono ?_; rintro e w2 ⟨rfl, k2⟩; have d1 : w2.cell? ⟨B, 1, none⟩ = some (.int .i64 s'.lo) := k2.so.cell (j := 1) rfl; have d2 : w2.cell? ⟨B, 2, none⟩ = some (.int .i64 s'.up) := k2.so.cell (j := 2) rfl)
          | (go_at_call 70; refine (HC2.out w2 k2).mono ?_; rintro e w3 ⟨rfl, k3⟩; have d8 : w3.cell? ⟨B, 8, none⟩ = some (.int .i64 s'.x.1) := k3.so.cell (j := 8) rfl; have d9 : w3.cell? ⟨B, 9, none⟩ = some (.int .i64 s'.x.2.1) := k3.so.cell (j := 9) rfl; have d10 : w3.cell? ⟨B, 10, none⟩ = some (.string s'.x.2.2) := k3.so.cell (j := 10) rfl; have d11 : w3.cell? ⟨B, 11, none⟩ = some (.int .i64 s'.y.1) := k3.so.cell (j := 11) rfl; have d12 : w3.cell? ⟨B, 12, none⟩ = some (.int .i64 s'.y.2.1) := k3.so.cell (j := 12) rfl; have d13 : w3.cell? ⟨B, 13, none⟩ = some (.string s'.y.2.2) := k3.so.cell (j := 13) rfl; have dfz := k3.so.free))
        all_goals
          go_wp2_with fail
          go_meet
          exact ((k3.more (by omega)).st3 8 x { s' with x := x } rfl rfl).st3 11 y { s' with x := x, y := y } rfl rfl
      case rest =>
        clear C1 HC2
        have CA : Calls Tryz.prog 71 #[.pointer (some ⟨B, 0, none⟩), .int .i64 1, .agg #[.int .i64 y.1, .int .i64 y.2.1, .string y.2.2], .agg #[.int .i64 x.1, .int .i64 x.2.1, .string x.2.2]] wc.drew (Gk N2 W0 B T S hb (c + 2) R) := (hcut.ask0 1 y x).mono fun _ _ hh => (by rw [HR.out]; exact ⟨hh.1, _, _, _, _, hh.2⟩)
        have d8 : wc.cell? ⟨B, 8, none⟩ = some (.int .i64 x.1) := hcut.so.cell (j := 8) rfl
        have d9 : wc.cell? ⟨B, 9, none⟩ = some (.int .i64 x.2.1) := hcut.so.cell (j := 9) rfl
        have d10 : wc.cell? ⟨B, 10, none⟩ = some (.string x.2.2) := hcut.so.cell (j := 10) rfl
        have d11 : wc.cell? ⟨B, 11, none⟩ = some (.int .i64 y.1) := hcut.so.cell (j := 11) rfl
        have d12 : wc.cell? ⟨B, 12, none⟩ = some (.int .i64 y.2.1) := hcut.so.cell (j := 12) rfl
        have d13 : wc.cell? ⟨B, 13, none⟩ = some (.string y.2.2) := hcut.so.cell (j := 13) rfl
        clear hcut HR c1 c2 c3
        go_wp2_with fail
        refine wp_tail 9 (by kernel_rfl) (by kernel_rfl) ?_
        simp only [List.take_succ_cons, List.take_zero, List.drop_succ_cons, List.drop_zero]
        repeat still_step
        refine wpStill_nil ?_
        go_wp2_with fail
        refine (CA).mono ?_
        rintro e w4 ⟨rfl, wv4, A4, b4, a4, s4⟩
        obtain ⟨r4, r5, s5, k5⟩ := HF.out w4 wv4 A4 b4 a4 _ _ R.2 s4
        have HZ : Hid (_ ∧ _ ∧ _) := ⟨r5, s5, k5⟩
        obtain ⟨tl, htl⟩ : ∃ tl, R.2 = tl := ⟨_, rfl⟩
        rw [htl] at HZ ⊢
        obtain ⟨W5, hW5⟩ : ∃ W5, set8 w4 w.heap.size tl = W5 := ⟨_, rfl⟩
        rw [hW5] at HZ
        unfold set8 at hW5
        unfold tolV
        obtain ⟨n0, n1, n2, n3, n4, n5, n6, n7⟩ := r4.eight
        simp only [nil] at n0 n1 n2 n3 n4 n5 n6 n7
        have nf := fun j => r4.free j
        clear r4 r5 s5 k5 s4 HF CA
        go_wp2
        obtain ⟨q1, q2, q3⟩ := HZ.out
        obtain ⟨r0, r1, r2, r3, r4, r5, r6, r7⟩ := q1.eight
        exact bodyPost_ret (v := tolV tl) (by simp [results, Tryz.results48, go_sem, r0, r1, r2, r3, r4, r5, r6, r7, tolV]) rfl ⟨by first | rfl | rw [htl], ⟨_, _, _, _, q2.more (by omega)⟩, q3⟩
    · have hge : s'.up ≤ s'.lo := by omega
      cases hw : s'.wt with
      | nil =>
        obtain ⟨ad, cap, ef0⟩ := K.so.form
        have ef : wv' = .slice ad 0 cap := by rw [ef0]; simp only [hw, List.length_nil]
        clear ef0
        subst ef
        have HE : Hid (R = (endD (s', d.2) 0, endT 0)) := HN.out.symm.trans (nrow_end hlt hw)
        have CE : ∀ m, Calls Tryz.prog 68 #[.pointer (some ⟨B, 0, none⟩), .int .i64 0] (wr.drewN m) (Gk N2 W0 B T S hb (c + 2) R) := fun m => (K.en 0 m).mono fun _ _ hh => (by rw [HE.out]; exact ⟨hh.1, _, _, _, _, hh.2.more (by omega)⟩)
        clear HE HN HB hw hlt hm K
        go_wp2_with fail
        go_quiet (fail)
        go_wp2_with fail
        refine (CE _).mono ?_
        rintro e w4 ⟨rfl, wv4, A4, b4, a4, s4⟩
        obtain ⟨r4, r5, s5, k5⟩ := HF.out w4 wv4 A4 b4 a4 _ _ R.2 s4
        have HZ : Hid (_ ∧ _ ∧ _) := ⟨r5, s5, k5⟩
        obtain ⟨tl, htl⟩ : ∃ tl, R.2 = tl := ⟨_, rfl⟩
        rw [htl] at HZ ⊢
        obtain ⟨W5, hW5⟩ : ∃ W5, set8 w4 w.heap.size tl = W5 := ⟨_, rfl⟩
        rw [hW5] at HZ
        unfold set8 at hW5
        unfold tolV
        obtain ⟨n0, n1, n2, n3, n4, n5, n6, n7⟩ := r4.eight
        simp only [nil] at n0 n1 n2 n3 n4 n5 n6 n7
        have nf := fun j => r4.free j
        clear r4 r5 s5 k5 s4 HF CE
        go_wp2
        obtain ⟨q1, q2, q3⟩ := HZ.out
        obtain ⟨r0, r1, r2, r3, r4, r5, r6, r7⟩ := q1.eight
        exact bodyPost_ret (v := tolV tl) (by simp [results, Tryz.results48, go_sem, r0, r1, r2, r3, r4, r5, r6, r7, tolV]) rfl ⟨by rw [htl], ⟨_, _, _, _, q2.more (by omega)⟩, q3⟩
      | cons r l =>
        obtain ⟨g, cap, ef, hgB, hcap, hcap2, g0, g1, hnew⟩ := K.so.last hw
        subst ef
        have hsub : ((l.length : Int) + 1) - 1 = (l.length : Int) := by omega
        have hsubw : IntKind.i64.wrap ((l.length : Int) + 1 - 1) = (l.length : Int) := by rw [IntKind.wrap_i64]; omega
        go_wp2_with fail
        go_quiet (fail)
        go_wp2_with fail
        have fB := K.so.free
        have hlast : l.length < l.length + 1 := Nat.lt_succ_self _
        have hn0 : ¬ (l.length : Int) < 0 := by omega
        go_region
        all_goals
          go_wp2_with fail
          have kk : Keep (fun x => x ≠ B ∧ x < wr.heap.size) wr ((((wr.drewN (nq + 1)).setCell ⟨B, 1, none⟩ (.int .i64 r.1)).setCell ⟨B, 2, none⟩ (.int .i64 r.2)).setCell ⟨B, 3, none⟩ (.slice (some ⟨g, 0, none⟩) l.length cap)) := (((Keep.of (bdrewN wr (nq + 1))).set (p := ⟨B, 1, none⟩) (fun q => q.1 rfl) _).set (p := ⟨B, 2, none⟩) (fun q => q.1 rfl) _).set (p := ⟨B, 3, none⟩) (fun q => q.1 rfl) _
          have b0 := (K.drewN (nq + 1)).so.blk
          have b1' := blk_set (j := 1) b0 (.int .i64 r.1)
          have b2' := blk_set (j := 2) b1' (.int .i64 r.2)
          have b3' := blk_set (j := 3) b2' (.slice (some ⟨g, 0, none⟩) l.length cap)
          obtain ⟨q1, q2⟩ := hnew _ { s' with lo := r.1, up := r.2, wt := l } kk (b3'.trans rfl) rfl
          refine ⟨⟨_, _, ⟨q1, K.kp.trans q2⟩, (nrow_next (by omega) hw).symm.trans HN.out, fun r' hr' => HB.out r' (List.mem_cons_of_mem _ (by rw [hw]; exact hr'))⟩, ?_⟩
          rw [q1.wlen, hm, hw]
          show l.length < l.length + 1
          omega
end Go.Proofs.YtcaaaoehipcloaaGreat

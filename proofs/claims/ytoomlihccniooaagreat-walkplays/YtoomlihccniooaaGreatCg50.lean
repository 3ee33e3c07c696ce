/- The walk of WalkPlays. -/
import Derived.Test.YtoomlihccniooaaGreatCg47
import Derived.Test.YtoomlihccniooaaGreatCg48
import Derived.Test.YtoomlihccniooaaGreatCg49
import Derived.Test.YtoomlihccniooaaGreatCg43
namespace Go.Proofs.YtoomlihccniooaaGreat
open Go.RowKit
theorem row_below {w w' : World} {B e sz n : Nat} {v : Value} {xs : List Value} (h : w.ownsRow B e sz v n xs) (k : Below w.heap.size w w') : w'.ownsRow B e sz v n xs := by
  refine ⟨h.1, ?_⟩
  rcases h.2 with q | ⟨g, cap, cur, rfl, h2, h3, h4⟩
  · exact .inl q
  · exact .inr ⟨g, cap, cur, rfl, h2, by rw [k.block g (Array.getElem?_eq_some_iff.1 h3).1]; exact h3, h4⟩
/-- An operation in a box. -/
structure O7 (w : World) (N : Nat) (d : Int) (k v : V) : Prop where
  c0 : w.cell? ⟨N, 0, none⟩ = some (.int .i64 d)
  c1 : w.cell? ⟨N, 1, none⟩ = some (.int .i64 k.1)
  c2 : w.cell? ⟨N, 2, none⟩ = some (.int .i64 k.2.1)
  c3 : w.cell? ⟨N, 3, none⟩ = some (.string k.2.2)
  c4 : w.cell? ⟨N, 4, none⟩ = some (.int .i64 v.1)
  c5 : w.cell? ⟨N, 5, none⟩ = some (.int .i64 v.2.1)
  c6 : w.cell? ⟨N, 6, none⟩ = some (.string v.2.2)
  lt : N < w.heap.size
theorem O7.kept {No : Nat → Prop} {w w' : World} {N : Nat} {d : Int} {k v : V} (h : O7 w N d k v) (q : Keep No w w') (hn : No N) : O7 w' N d k v := by
  have e := q.block N h.lt hn
  exact ⟨by rw [World.cell?_of_block (w := w) e]; exact h.c0, by rw [World.cell?_of_block (w := w) e]; exact h.c1, by rw [World.cell?_of_block (w := w) e]; exact h.c2, by rw [World.cell?_of_block (w := w) e]; exact h.c3, by rw [World.cell?_of_block (w := w) e]; exact h.c4, by rw [World.cell?_of_block (w := w) e]; exact h.c5, by rw [World.cell?_of_block (w := w) e]; exact h.c6, Nat.lt_of_lt_of_le h.lt q.size⟩
theorem O7.made (w : World) (d : Int) (kk v0 : V) : O7 (w.alloc (.cells #[.int .i64 d, .int .i64 kk.1, .int .i64 kk.2.1, .string kk.2.2, .int .i64 v0.1, .int .i64 v0.2.1, .string v0.2.2] 57)) w.heap.size d kk v0 := by
  have e := (MapKept.heap_alloc w (.cells #[.int .i64 d, .int .i64 kk.1, .int .i64 kk.2.1, .string kk.2.2, .int .i64 v0.1, .int .i64 v0.2.1, .string v0.2.2] 57)).1
  exact ⟨by rw [cell_of_row e]; rfl, by rw [cell_of_row e]; rfl, by rw [cell_of_row e]; rfl, by rw [cell_of_row e]; rfl, by rw [cell_of_row e]; rfl, by rw [cell_of_row e]; rfl, by rw [cell_of_row e]; rfl, by simp⟩
section
variable {Q : Nat → Prop} {w w' : World} {T S hb RT G c : Nat} {t u : TS} {s s' : H.St}
/-- A call of the program's that leaves its blocks where they are. -/
theorem Bz.pcall9 (h : Bz Q w T S hb RT G c t s u s') {f : Nat} {args : Array Value} {v : Value} {t' : TS} {m : Nat} (hh : ∀ N1 A b a, TT N1 w T A b a S hb c t s → Calls Tryz.prog f args w fun e w' => e = .returned v ∧ TT N1 w' T A b a S hb (c + m) t' s ∧ Keep N1 w w') :
    Calls Tryz.prog f args w fun e w' => e = .returned v ∧ Bz Q w' T S hb RT G (c + m) t' s u s' ∧ Keep Q w w' := by
  obtain ⟨N1, N2, ⟨A, b, a, h1⟩, ⟨A', P, ka, va, ca, cb, h2⟩, h3, h4⟩ := h.tt
  refine (hh _ _ _ _ h1).mono ?_
  rintro e w' ⟨rfl, h', kk⟩
  have f2 := h2.frame (w' := w') ⟨kk.os, kk.tape, kk.output, kk.size, fun g hg hn => kk.block g hg ((h3 g hg).resolve_right hn)⟩
  refine ⟨rfl, ⟨⟨N1, _, ⟨A, b, a, h'⟩, ⟨A', P, ka, va, ca, cb, f2.more (by omega)⟩, fun g q => ?_, fun g q => ⟨(h4 g q).1, .inl (h4 g q).2⟩⟩⟩, kk.sub (fun g q => (h4 g q).1)⟩
  by_cases hg : g < w.heap.size
  · rcases h3 g hg with r | r
    · exact .inl r
    · exact .inr (.inl r)
  · exact .inr (.inr ⟨by omega, q⟩)
theorem Bz.rcall9 (h : Bz Q w T S hb RT G c t s u s') {f : Nat} {args : Array Value} {v : Value} {u' : TS} {m : Nat} (hh : ∀ N2 A P ka va ca cb, RQ N2 w RT A P ka va ca cb G c u s' → Calls Tryz.prog f args w fun e w' => e = .returned v ∧ RQ N2 w' RT A P ka va ca cb G (c + m) u' s' ∧ Keep N2 w w') :
    Calls Tryz.prog f args w fun e w' => e = .returned v ∧ Bz Q w' T S hb RT G (c + m) t s u' s' ∧ Keep Q w w' := by
  obtain ⟨N1, N2, ⟨A, b, a, h1⟩, ⟨A', P, ka, va, ca, cb, h2⟩, h3, h4⟩ := h.tt
  refine (hh _ _ _ _ _ _ _ h2).mono ?_
  rintro e w' ⟨rfl, h', kk⟩
  have f1 := h1.frame2 (w' := w') kk.os kk.tape kk.output kk.size (fun g hg hn => kk.block g hg ((h3 g hg).resolve_left hn))
  refine ⟨rfl, ⟨⟨_, N2, ⟨A, b, a, f1.more (by omega)⟩, ⟨A', P, ka, va, ca, cb, h'⟩, fun g q => ?_, fun g q => ⟨.inl (h4 g q).1, (h4 g q).2⟩⟩⟩, kk.sub (fun g q => (h4 g q).2)⟩
  by_cases hg : g < w.heap.size
  · rcases h3 g hg with r | r
    · exact .inl (.inl r)
    · exact .inr r
  · exact .inl (.inr ⟨by omega, q⟩)
/-- What Next reads. -/
def nrd (p : Pa) (k : V) : Nat := if fm k = true ∧ k.1 ≠ 0 then prd p k else 0
theorem Bz.next (h : Bz Q w T S hb RT G c t s u s') (hc : c ≤ 600000) (k : V) (hr : Rng k) :
    Calls Tryz.prog 22 #[tp T, vv k] w fun e w' => e = .returned (.tuple #[vv (wnx t.p k).1, vv (wnx t.p k).2.1, .int .i64 (wnx t.p k).2.2]) ∧ Bz Q w' T S hb RT G (c + 1) { t with pr := t.pr + (nrd t.p k : Nat) } s u s' ∧ Keep Q w w' :=
  h.pcall9 fun _ _ _ _ h1 => next_any h1 (by omega) k hr
theorem Bz.rnext (h : Bz Q w T S hb RT G c t s u s') (hc : c ≤ 600000) (k : V) (hr : Rng k) :
    Calls Tryz.prog 23 #[tp RT, vv k] w fun e w' => e = .returned (.tuple #[vv (wnx u.p k).1, vv (wnx u.p k).2.1, .int .i64 (wnx u.p k).2.2]) ∧ Bz Q w' T S hb RT G (c + 1) t s { u with pr := u.pr + (nrd u.p k : Nat) } s' ∧ Keep Q w w' :=
  h.rcall9 fun _ _ _ _ _ _ _ h2 => rnext_any h2 hc k hr
theorem Bz.plist (h : Bz Q w T S hb RT G c t s u s') : Calls Tryz.prog 25 #[tp T] w fun e w' => ∃ v, e = .returned v ∧ w'.ownsRow w.heap.size 104 6 v (wl t.p).length (cPs (wl t.p)) ∧ Below w.heap.size w w' := by
  obtain ⟨N1, N2, ⟨A, b, a, h1⟩, h2, h3, h4⟩ := h.tt
  exact list_any h1.tm h1.ti
theorem Bz.rlist (h : Bz Q w T S hb RT G c t s u s') : Calls Tryz.prog 26 #[tp RT] w fun e w' => ∃ v, e = .returned v ∧ w'.ownsRow w.heap.size 105 6 v (wl u.p).length (cPs (wl u.p)) ∧ Below w.heap.size w w' := by
  obtain ⟨N1, N2, h1, ⟨A', P, ka, va, ca, cb, h2⟩, h3, h4⟩ := h.tt
  exact rlist_any h2.rb h2.ti
theorem wl_le (p : Pa) (h : TI p) : (wl p).length ≤ 200000 := by
  have h1 := lsF_len p (p.n + p.z) 1
  have h2 := h.le
  have h3 := h.rt.le
  unfold wl
  omega
end
set_option maxRecDepth 100000 in
set_option maxHeartbeats 16000000 in
theorem wplays_walk (x y : Int) (a : Option Addr) (L cap : Nat) (W : World) (Fq : Nat → Int × V × V) (hO : Q.Ops W.heap.size W a L Fq) :
    Calls Tryz.prog 4 #[cw x y (.slice a L cap)] W fun e w' => e = .returned (.bool true) ∧ Below W.heap.size W w' := by
  have B0 := b1 W (.cells #[.int .i64 x, .int .i64 y, .slice a L cap] 54)
  have e0 := (MapKept.heap_alloc W (.cells #[.int .i64 x, .int .i64 y, .slice a L cap] 54)).1
  obtain ⟨W0, hW0⟩ : ∃ W0, W.alloc (.cells #[.int .i64 x, .int .i64 y, .slice a L cap] 54) = W0 := ⟨_, rfl⟩
  rw [hW0] at B0 e0
  obtain ⟨X, hX⟩ : ∃ X, W.heap.size = X := ⟨_, rfl⟩
  rw [hX] at B0 e0 hO
  have HX : Hid (W.heap.size = X) := hX
  have C1 := Q.fixed_any W0
  have hl0 : X < W0.heap.size := (Array.getElem?_eq_some_iff.1 e0).1
  have HO : Hid (∀ w', Below X W w' → Q.Ops X w' a L Fq) := fun w' k => hO.below k
  have HB0 : Hid (Below X W W0) := B0
  have HF : Hid (∀ W1, Below W0.heap.size W0 W1 → X < W1.heap.size ∧ W1.heap[X]? = some (.cells #[.int .i64 x, .int .i64 y, .slice a L cap] 54)) := fun W1 k => ⟨Nat.lt_of_lt_of_le hl0 k.size, (k.block X hl0).trans e0⟩
  have HN : Hid (X ≤ W0.heap.size) := Nat.le_of_lt hl0
  clear B0 hO e0 hl0
  unfold cw
  go_enter Tryz.func4, Tryz.ntmps4
  go_wp2_with fail
  refine C1.mono ?_; rintro e W1 ⟨rfl, k1⟩
  obtain ⟨hl1, e1⟩ := HF.out W1 k1
  have y0 : W1.cell? ⟨X, 0, none⟩ = some (.int .i64 x) := cell_of_row e1 0
  have y1 : W1.cell? ⟨X, 1, none⟩ = some (.int .i64 y) := cell_of_row e1 1
  have y2 : W1.cell? ⟨X, 2, none⟩ = some (.slice a L cap) := cell_of_row e1 2
  have C2 := begin10_any x y (.slice a L cap) W1
  have HB1 : Hid (Below X W W1) := bthen HB0.out HN.out k1
  unfold cw tp at C2
  have HE1 : Hid (W1.heap[X]? = some (.cells #[.int .i64 x, .int .i64 y, .slice a L cap] 54) ∧ X < W1.heap.size) := ⟨e1, hl1⟩
  clear C1 k1 e1 hl1 hW0
  go_wp2_with fail
  refine C2.mono ?_; rintro e W2 ⟨T, S, hb, RT, G, t0, s0, rfl, bz, bw, _, _⟩
  obtain ⟨Q0, hQ0⟩ : ∃ Q0, (fun g => g < W1.heap.size) = Q0 := ⟨_, rfl⟩
  have HQ0 : Hid (Q0 X ∧ ∀ g, g < X → Q0 g) := by rw [← hQ0]; exact ⟨HE1.out.2, fun g q => Nat.lt_trans q HE1.out.2⟩
  rw [hQ0] at bz
  have H0 : Hid (∃ t s, Bz Q0 W2 T S hb RT G 3 t s t s ∧ Keep Q0 W1 W2) := ⟨t0, s0, bz, Keep.of bw⟩
  have HC : Hid (∀ w, Keep Q0 W1 w → w.cell? ⟨X, 2, none⟩ = some (.slice a L cap) ∧ Below X W w) := fun w kk =>
    ⟨by rw [World.cell?_of_block (w := W1) (kk.block X HE1.out.2 HQ0.out.1)]; exact cell_of_row HE1.out.1 2, HB1.out.trans (kk.below (Nat.le_of_lt HE1.out.2) (fun g hg => HQ0.out.2 g hg))⟩
  clear C2 bz bw hQ0 y0 y1 y2
  go_wp2_with fail
  go_loopw [6] (fun iw wr => ∃ k : Nat, iw = .int .i64 (k : Nat) ∧ k ≤ L ∧ k ≤ 300 ∧ Hid (∃ t s, Bz Q0 wr T S hb RT G (3 + 300 * k) t s t s ∧ Keep Q0 W1 wr)) (fun iw _ => 300 - (intOf iw).toNat)
  case atStart => exact ⟨0, rfl, by omega, by omega, H0⟩
  case round =>
    obtain ⟨k, rfl, hkL, hk3, HG⟩ := hrel
    obtain ⟨t, s, hM, hK⟩ := HG.out
    clear HG H0
    obtain ⟨xc, xb⟩ := HC.out wr hK
    by_cases hlt : k < L ∧ k < 300
    · obtain ⟨hlt, h300⟩ := hlt
      have hlt' : (k : Int) < (L : Int) := by omega
      have h300' : (k : Int) < 300 := by omega
      have hk0 : ¬ ((k : Int) < 0) := by omega
      obtain ⟨lb, off, ha, hlb, o0, o1, o2, o3, o4, o5, o6⟩ := (HO.out wr xb).at hlt
      subst ha
      have HRk : Hid (Rng (Fq k).2.1) := (HO.out W (Below.refl _ _)).1 k hlt
      generalize (Fq k).1 = d at *
      generalize (Fq k).2.1 = kk at *
      generalize (Fq k).2.2 = v0 at *
      have Ba := b1 wr (.cells #[.int .i64 d, .int .i64 kk.1, .int .i64 kk.2.1, .string kk.2.2, .int .i64 v0.1, .int .i64 v0.2.1, .string v0.2.2] 57)
      have Oa := O7.made wr d kk v0
      obtain ⟨wa, hwa⟩ : ∃ wa, wr.alloc (.cells #[.int .i64 d, .int .i64 kk.1, .int .i64 kk.2.1, .string kk.2.2, .int .i64 v0.1, .int .i64 v0.2.1, .string v0.2.2] 57) = wa := ⟨_, rfl⟩
      rw [hwa] at Ba Oa
      have ha1 := hM.news Ba
      have hlta := Oa.lt
      obtain ⟨Q1, hQ1⟩ : ∃ Q1, (fun g => Q0 g ∨ (wr.heap.size ≤ g ∧ g < wa.heap.size)) = Q1 := ⟨_, rfl⟩
      have HQ1 : Hid ((∀ g, Q0 g → Q1 g) ∧ Q1 wr.heap.size) := by rw [← hQ1]; exact ⟨fun g q => .inl q, .inr ⟨Nat.le_refl _, hlta⟩⟩
      rw [hQ1] at ha1
      have HKa : Hid (Keep Q0 W1 wa) := hK.trans (Keep.of Ba)
      have HM : Hid (Bz Q1 wa T S hb RT G (3 + 300 * k) t s t s) := ha1
      have HOx : Hid (∀ w', Keep Q1 wa w' → O7 w' wr.heap.size d kk v0) := fun w' q => Oa.kept q HQ1.out.2
      have p0 := Oa.c0
      have hc6 : 3 + 300 * k ≤ 100000 := by omega
      generalize hob : wr.heap.size = ob at *
      clear hM hK xb Ba Oa ha1 hlta hQ1 HC HO hlb
      by_cases c1 : d = 1
      · have g1 : (d == 1) = true := by simp [c1]
        have p := HOx.out wa (Keep.refl _ _)
        have p1 := p.c1
        have p2 := p.c2
        have p3 := p.c3
        have p4 := p.c4
        have p5 := p.c5
        have p6 := p.c6
        have CS := HM.out.set (by omega) kk v0 HRk.out
        unfold vv vl tp at CS
        clear c1 p
        go_wp2_with fail
        refine CS.mono ?_; rintro e w5 ⟨rfl, h5, k5⟩
        have HK5 : Hid (Keep Q1 wa w5) := k5
        have p := HOx.out w5 k5
        have p1 := p.c1
        have p2 := p.c2
        have p3 := p.c3
        have p4 := p.c4
        have p5 := p.c5
        have p6 := p.c6
        have CR := h5.rset (by omega) kk v0 HRk.out
        unfold vv vl tp at CR
        clear CS h5 k5 p
        go_wp2_with fail
        refine CR.mono ?_; rintro e w6 ⟨rfl, h6, k6⟩
        obtain ⟨tz, htz⟩ : ∃ tz, (tset t s kk v0).1 = tz := ⟨_, rfl⟩
        obtain ⟨sz2, hsz2⟩ : ∃ sz2, (tset t s kk v0).2.1 = sz2 := ⟨_, rfl⟩
        rw [htz] at h6
        rw [hsz2] at h6
        have HZ : Hid (Bz Q1 w6 T S hb RT G (3 + 300 * k + 7 + 7) tz sz2 tz sz2 ∧ Keep Q1 wa w6) := ⟨h6, HK5.out.trans k6⟩
        clear CR h6 k6 htz hsz2 HM HOx HK5
        obtain ⟨XX, Fw9, F1w, F2w⟩ := class_of w6
        have HCc : Hid (∃ x, World.drew w6 = Fw9 x) := F2w _ (bdrew1 w6)
        have hPr : ∀ x, Calls Tryz.prog 19 #[.pointer (some ⟨T, 0, none⟩)] (Fw9 x) fun e w'' => e = .returned (.int .i64 tz.pr) ∧ ∃ y, w'' = Fw9 y := fun x => ((HZ.out.1.below (F1w x)).probes).mono fun e w' hh => ⟨hh.1, x, hh.2⟩
        have q5 : ∀ x, (Fw9 x).cell? ⟨RT, 5, none⟩ = some (.int .i64 tz.pr) := fun x => (HZ.out.1.below (F1w x)).cells.1
        have HRel : Hid (∀ x, ∃ t s, Bz Q0 (Fw9 x) T S hb RT G (3 + 300 * (k + 1)) t s t s ∧ Keep Q0 W1 (Fw9 x)) := fun x => ⟨tz, sz2, ((HZ.out.1.below (F1w x)).sub HQ1.out.1).more (by omega), (HKa.out.trans (HZ.out.2.sub HQ1.out.1)).trans (Keep.of (F1w x))⟩
        clear F1w F2w HZ
        generalize tz.pr = p9 at *
        go_wp2_with fail
        haveI : Nonempty XX := HCc.out.elim fun x _ => ⟨x⟩
        refine wp_class (F := Fw9) (by kernel_rfl) (by kernel_rfl) HCc.out ?_
        repeat (go_big_quiet_step (fail))
        go_big_quiet_step (exact hPr _)
        repeat (go_big_quiet_step (fail))
        refine wpQuiet_nil ?_
        intro _ hw'
        obtain ⟨x9, rfl⟩ := hw'
        have HR9 : Hid _ := HRel.out x9
        clear HRel hPr q5
        go_wp2_with fail
        go_round
        case rel => exact ⟨k + 1, by go_num, by omega, by omega, HR9⟩
        case measure => simp [intOf]; omega
      · have g1 : (d == 1) = false := by simpa using c1
        clear c1
        by_cases c2 : d = 2
        · have g2 : (d == 2) = true := by simp [c2]
          have p := HOx.out wa (Keep.refl _ _)
          have p1 := p.c1
          have p2 := p.c2
          have p3 := p.c3
          have CS := HM.out.next (by omega) kk HRk.out
          obtain ⟨r, hr⟩ : ∃ r, wnx t.p kk = r := ⟨_, rfl⟩
          rw [hr] at CS
          have HR : Hid (wnx t.p kk = r) := hr
          unfold vv vl tp at CS
          clear c2 p hr
          go_wp2_with fail
          refine CS.mono ?_; rintro e w5 ⟨rfl, h5, k5⟩
          have e5 : (w5.alloc (.cells #[.int .i64 r.1.1, .int .i64 r.1.2.1, .string r.1.2.2] 31)).heap.size = w5.heap.size + 1 := by simp
          have x5 : Bx ((w5.alloc (.cells #[.int .i64 r.1.1, .int .i64 r.1.2.1, .string r.1.2.2] 31)).alloc (.cells #[.int .i64 r.2.1.1, .int .i64 r.2.1.2.1, .string r.2.1.2.2] 31)) w5.heap.size r.1 := (Bx.made w5 r.1).below (b1 _ _)
          have z5 := Bx.made (w5.alloc (.cells #[.int .i64 r.1.1, .int .i64 r.1.2.1, .string r.1.2.2] 31)) r.2.1
          have b5 := b2 w5 (.cells #[.int .i64 r.1.1, .int .i64 r.1.2.1, .string r.1.2.2] 31) (.cells #[.int .i64 r.2.1.1, .int .i64 r.2.1.2.1, .string r.2.1.2.2] 31)
          unfold vb at z5
          rw [e5] at z5
          obtain ⟨W6, hW6⟩ : ∃ W6, (w5.alloc (.cells #[.int .i64 r.1.1, .int .i64 r.1.2.1, .string r.1.2.2] 31)).alloc (.cells #[.int .i64 r.2.1.1, .int .i64 r.2.1.2.1, .string r.2.1.2.2] 31) = W6 := ⟨_, rfl⟩
          rw [hW6] at x5 z5 b5
          have HK6 : Hid (Keep Q1 wa W6) := k5.trans (Keep.of b5)
          have p := HOx.out W6 HK6.out
          have p1 := p.c1
          have p2 := p.c2
          have p3 := p.c3
          have h6 := h5.news b5
          have CR := h6.rnext (by omega) kk HRk.out
          have HX5 : Hid (Bx W6 w5.heap.size r.1 ∧ Bx W6 (w5.heap.size + 1) r.2.1 ∧ w5.heap.size + 1 < W6.heap.size) := ⟨x5, z5, z5.lt⟩
          rw [show ({ t with pr := t.pr + (nrd t.p kk : Nat) } : TS).p = t.p from rfl, HR.out] at CR
          unfold vv vl tp at CR
          clear CS h5 k5 p h6 x5 z5 b5
          go_wp2_with fail
          refine CR.mono ?_; rintro e w7 ⟨rfl, h7, k7⟩
          have e7 : (w7.alloc (.cells #[.int .i64 r.1.1, .int .i64 r.1.2.1, .string r.1.2.2] 31)).heap.size = w7.heap.size + 1 := by simp
          have x7 : Bx ((w7.alloc (.cells #[.int .i64 r.1.1, .int .i64 r.1.2.1, .string r.1.2.2] 31)).alloc (.cells #[.int .i64 r.2.1.1, .int .i64 r.2.1.2.1, .string r.2.1.2.2] 31)) w7.heap.size r.1 := (Bx.made w7 r.1).below (b1 _ _)
          have z7 := Bx.made (w7.alloc (.cells #[.int .i64 r.1.1, .int .i64 r.1.2.1, .string r.1.2.2] 31)) r.2.1
          have b7 := b2 w7 (.cells #[.int .i64 r.1.1, .int .i64 r.1.2.1, .string r.1.2.2] 31) (.cells #[.int .i64 r.2.1.1, .int .i64 r.2.1.2.1, .string r.2.1.2.2] 31)
          unfold vb at z7
          rw [e7] at z7
          obtain ⟨W8, hW8⟩ : ∃ W8, (w7.alloc (.cells #[.int .i64 r.1.1, .int .i64 r.1.2.1, .string r.1.2.2] 31)).alloc (.cells #[.int .i64 r.2.1.1, .int .i64 r.2.1.2.1, .string r.2.1.2.2] 31) = W8 := ⟨_, rfl⟩
          rw [hW8] at x7 z7 b7
          have x5 := (HX5.out.1.kept k7 (.inr ⟨Nat.le_refl _, by have := HX5.out.2.2; omega⟩)).below b7
          have z5 := (HX5.out.2.1.kept k7 (.inr ⟨by omega, HX5.out.2.2⟩)).below b7
          have i0 := x5.c0
          have i1 := x5.c1
          have i2 := x5.c2
          have i3 := z5.c0
          have i4 := z5.c1
          have i5 := z5.c2
          have j0 := x7.c0
          have j1 := x7.c1
          have j2 := x7.c2
          have j3 := z7.c0
          have j4 := z7.c1
          have j5 := z7.c2
          have N1 := neq32 r.1.1 r.1.2.1 r.1.1 r.1.2.1 r.1.2.2 r.1.2.2
          have N2 := neq32 r.2.1.1 r.2.1.2.1 r.2.1.1 r.2.1.2.1 r.2.1.2.2 r.2.1.2.2
          simp only [decide_true, Bool.not_true] at N1 N2
          unfold vl at N1 N2
          have g32 := guard32
          have hne : (r.2.2 != r.2.2) = false := by simp
          obtain ⟨tz, htz⟩ : ∃ tz : TS, { t with pr := t.pr + (nrd t.p kk : Nat) } = tz := ⟨_, rfl⟩
          obtain ⟨sz2, hsz2⟩ : ∃ sz2, s = sz2 := ⟨_, rfl⟩
          rw [htz, hsz2] at h7
          have HZ : Hid (Bz Q1 W8 T S hb RT G (3 + 300 * k + 1 + 1) tz sz2 tz sz2 ∧ Keep Q1 wa W8) := ⟨(h7.sub (fun _ => .inl)).below b7, (HK6.out.trans (k7.sub (fun _ => .inl))).trans (Keep.of b7)⟩
          clear CR h7 k7 htz hsz2 HM HOx HK6 HR x5 z5 x7 z7 b7 HX5
          obtain ⟨XX, Fw9, F1w, F2w⟩ := class_of W8
          have HCc : Hid (∃ x, World.drew W8 = Fw9 x) := F2w _ (bdrew1 W8)
          have hPr : ∀ x, Calls Tryz.prog 19 #[.pointer (some ⟨T, 0, none⟩)] (Fw9 x) fun e w'' => e = .returned (.int .i64 tz.pr) ∧ ∃ y, w'' = Fw9 y := fun x => ((HZ.out.1.below (F1w x)).probes).mono fun e w' hh => ⟨hh.1, x, hh.2⟩
          have q5 : ∀ x, (Fw9 x).cell? ⟨RT, 5, none⟩ = some (.int .i64 tz.pr) := fun x => (HZ.out.1.below (F1w x)).cells.1
          have HRel : Hid (∀ x, ∃ t s, Bz Q0 (Fw9 x) T S hb RT G (3 + 300 * (k + 1)) t s t s ∧ Keep Q0 W1 (Fw9 x)) := fun x => ⟨tz, sz2, ((HZ.out.1.below (F1w x)).sub HQ1.out.1).more (by omega), (HKa.out.trans (HZ.out.2.sub HQ1.out.1)).trans (Keep.of (F1w x))⟩
          clear F1w F2w HZ
          generalize tz.pr = p9 at *
          go_wp2_with fail
          haveI : Nonempty XX := HCc.out.elim fun x _ => ⟨x⟩
          refine wp_class (F := Fw9) (by kernel_rfl) (by kernel_rfl) HCc.out ?_
          repeat (go_big_quiet_step (fail))
          go_big_quiet_step (exact hPr _)
          repeat (go_big_quiet_step (fail))
          refine wpQuiet_nil ?_
          intro _ hw'
          obtain ⟨x9, rfl⟩ := hw'
          have HR9 : Hid _ := HRel.out x9
          clear HRel hPr q5
          go_wp2_with fail
          go_round
          case rel => exact ⟨k + 1, by go_num, by omega, by omega, HR9⟩
          case measure => simp [intOf]; omega
        · have g2 : (d == 2) = false := by simpa using c2
          clear c2
          have CS := HM.out.plist
          have hwl := wl_le t.p HM.out.ti.1
          obtain ⟨l, hl⟩ : ∃ l, wl t.p = l := ⟨_, rfl⟩
          rw [hl] at CS hwl
          have HL : Hid (wl t.p = l) := hl
          unfold tp at CS
          clear hl
          go_wp2_with fail
          refine CS.mono ?_; rintro e w5 ⟨v5, rfl, r5, bb5⟩
          have h5 := HM.out.below bb5
          have CR := h5.rlist
          rw [HL.out] at CR
          have HR5 : Hid (w5.ownsRow wa.heap.size 104 6 v5 l.length (cPs l)) := r5
          have HM5 : Hid (Bz Q1 w5 T S hb RT G (3 + 300 * k) t s t s ∧ Keep Q1 wa w5) := ⟨h5, Keep.of bb5⟩
          obtain ⟨a5, cp5, hv5, _⟩ := pr_of r5
          subst hv5
          unfold tp at CR
          clear CS r5 bb5 h5
          go_wp2_with fail
          refine CR.mono ?_; rintro e w6 ⟨v6, rfl, r6, bb6⟩
          have CE := psame_any (row_below HR5.out bb6) r6 hwl
          have HM6 : Hid (Bz Q1 w6 T S hb RT G (3 + 300 * k) t s t s ∧ Keep Q1 wa w6) := ⟨HM5.out.1.below bb6, HM5.out.2.trans (Keep.of bb6)⟩
          obtain ⟨a6, cp6, hv6, _⟩ := pr_of r6
          subst hv6
          clear CR r6 bb6 HR5 HM5
          go_wp2_with fail
          refine CE.mono ?_; rintro e w7 ⟨rfl, bb7⟩
          obtain ⟨tz, htz⟩ : ∃ tz, t = tz := ⟨_, rfl⟩
          obtain ⟨sz2, hsz2⟩ : ∃ sz2, s = sz2 := ⟨_, rfl⟩
          have HZ : Hid (Bz Q1 w7 T S hb RT G (3 + 300 * k) tz sz2 tz sz2 ∧ Keep Q1 wa w7) := by
            rw [← htz, ← hsz2]
            exact ⟨HM6.out.1.below bb7, HM6.out.2.trans (Keep.of bb7)⟩
          clear CE bb7 htz hsz2 HM HOx HM6 HL
          obtain ⟨XX, Fw9, F1w, F2w⟩ := class_of w7
          have HCc : Hid (∃ x, World.drew w7 = Fw9 x) := F2w _ (bdrew1 w7)
          have hPr : ∀ x, Calls Tryz.prog 19 #[.pointer (some ⟨T, 0, none⟩)] (Fw9 x) fun e w'' => e = .returned (.int .i64 tz.pr) ∧ ∃ y, w'' = Fw9 y := fun x => ((HZ.out.1.below (F1w x)).probes).mono fun e w' hh => ⟨hh.1, x, hh.2⟩
          have q5 : ∀ x, (Fw9 x).cell? ⟨RT, 5, none⟩ = some (.int .i64 tz.pr) := fun x => (HZ.out.1.below (F1w x)).cells.1
          have HRel : Hid (∀ x, ∃ t s, Bz Q0 (Fw9 x) T S hb RT G (3 + 300 * (k + 1)) t s t s ∧ Keep Q0 W1 (Fw9 x)) := fun x => ⟨tz, sz2, ((HZ.out.1.below (F1w x)).sub HQ1.out.1).more (by omega), (HKa.out.trans (HZ.out.2.sub HQ1.out.1)).trans (Keep.of (F1w x))⟩
          clear F1w F2w HZ
          generalize tz.pr = p9 at *
          go_wp2_with fail
          haveI : Nonempty XX := HCc.out.elim fun x _ => ⟨x⟩
          refine wp_class (F := Fw9) (by kernel_rfl) (by kernel_rfl) HCc.out ?_
          repeat (go_big_quiet_step (fail))
          go_big_quiet_step (exact hPr _)
          repeat (go_big_quiet_step (fail))
          refine wpQuiet_nil ?_
          intro _ hw'
          obtain ⟨x9, rfl⟩ := hw'
          have HR9 : Hid _ := HRel.out x9
          clear HRel hPr q5
          go_wp2_with fail
          go_round
          case rel => exact ⟨k + 1, by go_num, by omega, by omega, HR9⟩
          case measure => simp [intOf]; omega
    · have HM : Hid (Bz Q0 wr T S hb RT G (3 + 300 * k) t s t s ∧ Keep Q0 W1 wr) := ⟨hM, hK⟩
      have CS := hM.plist
      have hwl := wl_le t.p hM.ti.1
      obtain ⟨l, hl⟩ : ∃ l, wl t.p = l := ⟨_, rfl⟩
      rw [hl] at CS hwl
      have HL : Hid (wl t.p = l) := hl
      unfold tp at CS
      have hq : ((k : Int) < (L : Int) ∧ ¬ ((k : Int) < 300)) ∨ ¬ ((k : Int) < (L : Int)) := by omega
      clear hlt hl hM hK xb
      rcases hq with ⟨q1, q2⟩ | q1
      all_goals
        go_wp2_with fail
        refine CS.mono ?_; rintro e w5 ⟨v5, rfl, r5, bb5⟩
        have h5 := HM.out.1.below bb5
        have CR := h5.rlist
        rw [HL.out] at CR
        have HR5 : Hid (w5.ownsRow wr.heap.size 104 6 v5 l.length (cPs l)) := r5
        have HM5 : Hid (Keep Q0 W1 w5) := HM.out.2.trans (Keep.of bb5)
        obtain ⟨a5, cp5, hv5, _⟩ := pr_of r5
        subst hv5
        unfold tp at CR
        clear CS r5 bb5 h5
        go_wp2_with fail
        refine CR.mono ?_; rintro e w6 ⟨v6, rfl, r6, bb6⟩
        have CE := psame_any (row_below HR5.out bb6) r6 hwl
        have HM6 : Hid (Keep Q0 W1 w6) := HM5.out.trans (Keep.of bb6)
        obtain ⟨a6, cp6, hv6, _⟩ := pr_of r6
        subst hv6
        clear CR r6 bb6 HR5 HM5
        go_wp2_with fail
        refine CE.mono ?_; rintro e w7 ⟨rfl, bb7⟩
        have HB7 : Hid (Below X W w7) := (HC.out w7 (HM6.out.trans (Keep.of bb7))).2
        clear CE bb7 HM6
        go_wp2_with fail
        go_ret
        exact ⟨rfl, by rw [HX.out]; exact HB7.out⟩
end Go.Proofs.YtoomlihccniooaaGreat

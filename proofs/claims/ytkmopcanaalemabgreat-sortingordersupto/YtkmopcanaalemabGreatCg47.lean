/- The walk of often. -/
import Derived.Test.YtkmopcanaalemabGreatCg33
import Derived.Test.YtkmopcanaalemabGreatCg16
import Derived.Test.YtkmopcanaalemabGreatCg08
import Derived.Test.YtkmopcanaalemabGreatCg04
import Derived.Test.YtkmopcanaalemabGreatCg29
import Derived.Test.YtkmopcanaalemabGreatCg23
import Derived.Test.YtkmopcanaalemabGreatCg31
namespace Go.Proofs.YtkmopcanaalemabGreat
open Go.RowKit

theorem info4 : (Tryz.prog.info? 4).map (fun i => (i.zero, i.size, i.bytes)) = some (some (.bool false), 1, 1) := by kernel_rfl
theorem make_bool (m : Nat) (hm : m ≤ 1000000) (W : World) : (Instr.makeSlice 23 (.int .i64 m) (.int .i64 m)).run Tryz.prog W = .ok (.slice (some ⟨W.heap.size, 0, none⟩) m m) (W.alloc (.cells (madeCells (Value.bool false).cells (m * 1)) 4)) := by
  obtain ⟨i0, hi, hz0, hz1, hz2⟩ := info_parts info4
  have h := run_make (P := Tryz.prog) W 23 4 i0 (.bool false) Tryz.underlying23 hi hz0 .i64 .i64 m m (by omega) (Int.le_refl _) (by rw [hz2]; omega) (by omega)
  rw [hz1] at h
  simpa using h
theorem made_bool (w : World) (n i : Nat) (h : i < n) : (w.alloc (.cells (madeCells (Value.bool false).cells (n * 1)) 4)).cell? ⟨w.heap.size, i, none⟩ = some (.bool false) := by
  rw [cell_of_row (MapKept.heap_alloc w _).1]
  simp [madeCells, Value.cells, h, Nat.mod_one]
/-- A list of truths in a block of its own. -/
structure Ub (w : World) (ub n : Nat) (u : Nat → Bool) : Prop where
  cell : ∀ j, j < n → w.cell? ⟨ub, j, none⟩ = some (.bool (u j))
  fz : ∀ j, w.frozen? ⟨ub, j, none⟩ = false
  lt : ub < w.heap.size
theorem Ub.keep {No : Nat → Prop} {w w' : World} {ub n : Nat} {u : Nat → Bool} (h : Ub w ub n u) (k : Keep No w w') (hn : No ub) : Ub w' ub n u :=
  ⟨fun j hj => by rw [World.cell?_of_block (w := w) (k.block ub h.lt hn)]; exact h.cell j hj, fun j => by rw [World.frozen?_of_block (w := w) (k.block ub h.lt hn)]; exact h.fz j, Nat.lt_of_lt_of_le h.lt k.size⟩
theorem Ub.below {w w' : World} {ub n : Nat} {u : Nat → Bool} (h : Ub w ub n u) (k : Below w.heap.size w w') : Ub w' ub n u := h.keep (No := fun _ => True) (Keep.of k) trivial
theorem Ub.set {w : World} {ub n : Nat} {u : Nat → Bool} (h : Ub w ub n u) {k : Nat} (hk : k < n) : Ub (w.setCell ⟨ub, k, none⟩ (.bool true)) ub n (U.usd u k) := by
  refine ⟨fun j hj => ?_, fun j => by simpa using h.fz j, by simpa [World.setCell] using h.lt⟩
  unfold U.usd
  by_cases e : j = k
  · subst e
    rw [if_pos rfl]
    exact World.cell?_setCell_same _ _ _ (h.cell j hj)
  · rw [if_neg e, World.cell?_setCell_other _ _ _ _ (fun q => by injection q with _ q2; omega)]
    exact h.cell j hj
theorem TT.touch {No : Nat → Prop} {w : World} {T A b a S hb c : Nat} {t : TS} {s : H.St} (h : TT No w T A b a S hb c t s) {g j : Nat} (hg : No g) (v : Value) : TT No (w.setCell ⟨g, j, none⟩ v) T A b a S hb c t s := by
  have k : Keep (fun x => x ≠ g) w (w.setCell ⟨g, j, none⟩ v) := (Keep.refl _ w).set (p := ⟨g, j, none⟩) (fun q => q rfl) _
  exact (h.frame2 k.os k.tape k.output k.size (fun x hx hn => k.block x hx (fun e => hn (e ▸ hg)))).sub (fun x q => .inl q)
theorem bdrN (w : World) (n : Nat) : Below w.heap.size w (w.drewN n) := ⟨rfl, rfl, rfl, Nat.le_refl _, fun _ _ => rfl⟩
set_option maxRecDepth 20000 in
set_option maxHeartbeats 4000000 in
theorem often_any {No : Nat → Prop} {w : World} {T A b a S hb c : Nat} {t : TS} {s : H.St} (h : TT No w T A b a S hb c t s) (hc : c ≤ 700000) {G0 : Nat} {ad : Option Addr} {cap L : Nat} {F : Nat → V} (hl : Lv w G0 (.slice ad L cap) L F) (hnl : ∀ g, (Value.slice ad L cap).ownBlock = some g → No g) (hL : L ≤ 60) {f : Int → V} (hp : ∀ k : Int, 1 ≤ k → k ≤ (L : Int) → pget t.p (kn k) = f k) (hcn : ∀ x, U.cnt f x L = U.cl F x L) :
    Calls Tryz.prog 21 #[.pointer (some ⟨T, 0, none⟩), .slice ad L cap] w fun e w' => e = .returned (.bool true) ∧ Keep No w w' := by
  have hmk := make_bool L (by omega) w
  have BM := b1 w (.cells (madeCells (Value.bool false).cells (L * 1)) 4)
  have U0 : Ub (w.alloc (.cells (madeCells (Value.bool false).cells (L * 1)) 4)) w.heap.size L (fun _ => false) := ⟨fun j hj => made_bool w L j hj, fun j => new_free w _ _ j, by simp⟩
  have tn := h.news BM
  have l0 := hl.below BM
  have hz : (w.alloc (.cells (madeCells (Value.bool false).cells (L * 1)) 4)).heap.size = w.heap.size + 1 := by simp
  obtain ⟨W1, hW1⟩ : ∃ W1, w.alloc (.cells (madeCells (Value.bool false).cells (L * 1)) 4) = W1 := ⟨_, rfl⟩
  rw [hW1] at hmk BM U0 tn l0 hz
  obtain ⟨N3, hN3⟩ : ∃ N3 : Nat → Prop, (fun g => No g ∨ (w.heap.size ≤ g ∧ g < W1.heap.size)) = N3 := ⟨_, rfl⟩
  have HN : Hid (N3 w.heap.size ∧ (∀ g, (Value.slice ad L cap).ownBlock = some g → N3 g) ∧ (∀ g, No g → N3 g) ∧ ¬ No w.heap.size) := by
    subst hN3
    refine ⟨.inr ⟨Nat.le_refl _, by omega⟩, fun g q => .inl (hnl g q), fun g q => .inl q, fun q => ?_⟩
    obtain ⟨vb, hp0⟩ := h.hp
    have := hp0.nos _ (.inl q)
    omega
  rw [hN3] at tn
  have HP : Hid (∀ k : Int, 1 ≤ k → k ≤ (L : Int) → pget t.p (kn k) = f k) := hp
  have HC : Hid (∀ x, U.cnt f x L = U.cl F x L) := hcn
  have H0 : Hid (∃ (A b a : Nat) (pr : Int) (u : Nat → Bool), TT N3 W1 T A b a S hb (c + 0) { t with pr := pr } s ∧ Ub W1 w.heap.size L u ∧ U.Iu L f F 0 u ∧ Lv W1 G0 (.slice ad L cap) L F ∧ Keep No w W1) := ⟨A, b, a, t.pr, _, tn, U0, U.Iu.zero L f F, l0, Keep.of BM⟩
  have HLb : Hid (∀ g, (Value.slice ad L cap).ownBlock = some g → g < w.heap.size) := fun g q => (hl.own.lt g q).2
  clear hN3 hp hcn h hl hnl BM U0 tn l0 hz
  go_enter Tryz.func21, Tryz.ntmps21
  go_wp2
  go_loopw [6] (fun iw wr => ∃ i : Nat, iw = .int .i64 (i : Nat) ∧ i ≤ L ∧ Hid (∃ (A b a : Nat) (pr : Int) (u : Nat → Bool), TT N3 wr T A b a S hb (c + i) { t with pr := pr } s ∧ Ub wr w.heap.size L u ∧ U.Iu L f F i u ∧ Lv wr G0 (.slice ad L cap) L F ∧ Keep No w wr)) (fun iw _ => L - (intOf iw).toNat)
  case atStart => exact ⟨0, rfl, by omega, H0⟩
  case round =>
    obtain ⟨i, rfl, hiL, HR⟩ := hrel
    obtain ⟨A, b, a, pr, u, tt, ub, iu, lv, kp⟩ := HR.out
    have HK : Hid (Keep No w wr) := kp
    clear kp
    clear HR H0
    by_cases hi : i < L
    · have h1 : (i : Int) < (L : Int) := by omega
      have wi : IntKind.i64.wrap ((i : Int) + 1) = (i : Int) + 1 := by rw [IntKind.wrap_i64]; omega
      have CI : Calls Tryz.prog 17 #[.int .i64 ((i : Int) + 1)] wr fun e w' => e = .returned (.agg #[.int .i64 2, .int .i64 ((i : Int) + 1), .string ⟨#[]⟩]) ∧ Below wr.heap.size wr w' := mkI ((i : Int) + 1) wr
      have HCG : Hid (∀ w2, Below wr.heap.size wr w2 → Calls Tryz.prog 20 #[.pointer (some ⟨T, 0, none⟩), .agg #[.int .i64 2, .int .i64 ((i : Int) + 1), .string ⟨#[]⟩]] w2 fun e w' => e = .returned (.agg #[.int .i64 (f ((i : Int) + 1)).1, .int .i64 (f ((i : Int) + 1)).2.1, .string (f ((i : Int) + 1)).2.2]) ∧ (∃ pr', TT N3 w' T A b a S hb (c + i + 1) { t with pr := pr' } s) ∧ Keep N3 w2 w') := fun w2 kb => by
        refine (tget_any (tt.below kb) (by omega) (kn ((i : Int) + 1)) ⟨by show -9223372036854775808 ≤ (i : Int) + 1; omega, by show (i : Int) + 1 ≤ 9223372036854775807; omega⟩).mono ?_
        rintro e w' ⟨rfl, t', k'⟩
        refine ⟨?_, ⟨_, t'⟩, k'⟩
        have := HP.out ((i : Int) + 1) (by omega) (by omega)
        show Ending.returned (vv (pget t.p (kn ((i : Int) + 1)))) = _
        rw [this]
      have HUL : Hid (Ub wr w.heap.size L u ∧ U.Iu L f F i u ∧ Lv wr G0 (.slice ad L cap) L F) := ⟨ub, iu, lv⟩
      clear tt ub iu lv
      obtain ⟨v, hv⟩ : ∃ v, f ((i : Int) + 1) = v := ⟨_, rfl⟩
      rw [hv] at HCG
      have HV : Hid (f ((i : Int) + 1) = v) := hv
      clear hv
      go_wp2_with fail
      refine CI.mono ?_; rintro e w2 ⟨rfl, hb2⟩
      have CG := HCG.out w2 hb2
      have HB2 : Hid (Below wr.heap.size wr w2) := hb2
      clear CI HCG hb2
      go_wp2_with fail
      refine CG.mono ?_; rintro e w3 ⟨rfl, ⟨pr', tt3⟩, k3⟩
      have B4 := b1 w3 (vb v.1 v.2.1 v.2.2)
      have X4 := Bx.made w3 v
      have U4 := ((HUL.out.1.below HB2.out).keep k3 HN.out.1).below B4
      have L4 := ((HUL.out.2.2.below HB2.out).keep k3 HN.out.2.1).below B4
      have T4 := tt3.below B4
      obtain ⟨W4, hW4⟩ : ∃ W4, w3.alloc (vb v.1 v.2.1 v.2.2) = W4 := ⟨_, rfl⟩
      rw [hW4] at B4 X4 U4 L4 T4
      unfold vb at hW4
      have HK4 : Hid (Keep No w W4) := ((HK.out.trans (Keep.of HB2.out)).trans (k3.sub HN.out.2.2.1)).trans (Keep.of B4)
      have HF4 : Hid (TT N3 W4 T A b a S hb (c + i + 1) { t with pr := pr' } s ∧ Ub W4 w.heap.size L u ∧ U.Iu L f F i u ∧ Lv W4 G0 (.slice ad L cap) L F) := ⟨T4, U4, HUL.out.2.1, L4⟩
      have x0 := X4.c0
      have x1 := X4.c1
      have x2 := X4.c2
      clear CG tt3 k3 B4 X4 U4 L4 T4 HUL HB2
      go_wp2_with fail
      go_loopw [8, 9] (fun aw kw wx => ∃ k : Nat, kw = .int .i64 (k : Nat) ∧ k ≤ L ∧ aw = .int .i64 (U.lst u F v k) ∧ ∃ m, wx = W4.drewN m) (fun _ kw _ => L - (intOf kw).toNat)
      case atStart => exact ⟨0, rfl, by omega, rfl, 0, rfl⟩
      case round =>
        obtain ⟨k, rfl, hkL, rfl, m, rfl⟩ := hrel
        by_cases hk : k < L
        · have h2 : (k : Int) < (L : Int) := by omega
          have uk := HF4.out.2.1.cell k hk
          obtain ⟨g, cp, ev, _, hg1, _, q0, q1, q2⟩ := HF4.out.2.2.2.at hk
          cases ev
          have g32 := guard32
          cases hu : u k with
          | true =>
            rw [hu] at uk
            have HL : Hid (U.lst u F v (k + 1) = U.lst u F v k) := by
              have : U.lst u F v (k + 1) = U.lst u F v k := by conv => lhs; unfold U.lst; rw [if_neg (fun q => by rw [hu] at q; cases q.1)]
              exact this
            clear hu
            go_wp2_with fail
            go_quiet (fail)
            go_wp2
            go_round
            case rel => exact ⟨k + 1, by first | rfl | simp, by omega, by rw [HL.out], _, rfl⟩
            case measure => first | omega | (simp only [intOf]; omega) | (simp; omega)
          | false =>
            rw [hu] at uk
            by_cases he : F k = v
            · have EQ := eql32 (F k).1 (F k).2.1 v.1 v.2.1 (F k).2.2 v.2.2
              rw [he] at EQ
              simp only [decide_true] at EQ
              unfold vl at EQ
              rw [he] at q0 q1 q2
              have HL : Hid (U.lst u F v (k + 1) = (k : Int)) := by
                have : U.lst u F v (k + 1) = (k : Int) := by unfold U.lst; rw [if_pos ⟨hu, he⟩]
                exact this
              clear hu he
              go_wp2_with fail
              go_quiet (fail)
              go_wp2
              go_round
              case rel => exact ⟨k + 1, by first | rfl | simp, by omega, by rw [HL.out], _, rfl⟩
              case measure => first | omega | (simp only [intOf]; omega) | (simp; omega)
            · have EQ := eql32 (F k).1 (F k).2.1 v.1 v.2.1 (F k).2.2 v.2.2
              have e0 : decide (((F k).1, (F k).2.1, (F k).2.2) = (v.1, v.2.1, v.2.2)) = false := decide_eq_false he
              simp only [e0] at EQ
              unfold vl at EQ
              have HL : Hid (U.lst u F v (k + 1) = U.lst u F v k) := by
                have : U.lst u F v (k + 1) = U.lst u F v k := by conv => lhs; unfold U.lst; rw [if_neg (fun q => he q.2)]
                exact this
              clear hu he e0
              go_wp2_with fail
              go_quiet (fail)
              go_wp2
              go_round
              case rel => exact ⟨k + 1, by first | rfl | simp, by omega, by rw [HL.out], _, rfl⟩
              case measure => first | omega | (simp only [intOf]; omega) | (simp; omega)
        · have ek : k = L := by omega
          subst ek
          have h2 : ¬ (k : Int) < (k : Int) := by omega
          obtain ⟨kk, kk1, kk2, iu'⟩ := HF4.out.2.2.1.step hi HC.out
          rw [HV.out] at kk2
          rw [kk2]
          have uk := HF4.out.2.1.cell kk kk1
          have uf := HF4.out.2.1.fz
          have h3 : ¬ ((kk : Int) < 0) := by omega
          have h4 : (kk : Int) < (k : Int) := by omega
          have HD : Hid (TT N3 ((W4.drewN m).setCell ⟨w.heap.size, kk, none⟩ (.bool true)) T A b a S hb (c + i + 1) { t with pr := pr' } s ∧ Ub ((W4.drewN m).setCell ⟨w.heap.size, kk, none⟩ (.bool true)) w.heap.size k (U.usd u kk) ∧ U.Iu k f F (i + 1) (U.usd u kk) ∧ Lv ((W4.drewN m).setCell ⟨w.heap.size, kk, none⟩ (.bool true)) G0 (.slice ad k cap) k F ∧ Keep No w ((W4.drewN m).setCell ⟨w.heap.size, kk, none⟩ (.bool true))) := by
            obtain ⟨t4, u4, _, l4⟩ := HF4.out
            have kt : Keep (fun g => g ≠ w.heap.size) (W4.drewN m) ((W4.drewN m).setCell ⟨w.heap.size, kk, none⟩ (.bool true)) := (Keep.refl _ _).set (p := ⟨w.heap.size, kk, none⟩) (fun q => q rfl) _
            refine ⟨(t4.below (bdrN W4 m)).touch HN.out.1 _, (u4.below (bdrN W4 m)).set kk1, iu', (l4.below (bdrN W4 m)).keep kt (fun g q => ?_), (HK4.out.trans (Keep.of (bdrN W4 m))).set (p := ⟨w.heap.size, kk, none⟩) HN.out.2.2.2 _⟩
            have hq := HLb.out g q
            show g ≠ w.heap.size
            omega
          clear kk2 iu'
          go_wp2_with fail
          exact ⟨⟨i + 1, by first | rfl | simp, by omega, ⟨_, _, _, _, _, HD.out.1, HD.out.2⟩⟩, by first | omega | (simp only [intOf]; omega) | (simp; omega)⟩
    · have h1 : ¬ (i : Int) < (L : Int) := by omega
      go_wp2
      go_ret
      exact ⟨rfl, HK.out⟩
end Go.Proofs.YtkmopcanaalemabGreat

/- The document's first example, by the sorter as plain data. -/
namespace Go.Proofs.YtkmopcanaalemabGreat
open Go.RowKit

/-- The states behind the two questions. -/
def sf1 : SS := ⟨1, 3, [], 1, 0, 0, 0, kn 3, kn 2, nil, 0⟩
def sf2 : SS := ⟨1, 3, [], 2, 2, 0, 0, kn 1, kn 2, nil, 0⟩
theorem fixed_one {f : Int → V} (a1 : f 1 = kn 3) (a3 : f 3 = kn 2) {t : TS} {s : H.St} (hm : Mt 3 t s f) :
    ∃ t1 : TS × H.St, goR (U.s0 3, t, s) false = ((sf1, t1), askT (kn 2) (kn 3)) ∧ Mt 3 t1.1 t1.2 f := by
  have hd := hd_mt (n := 3) (by omega)
  have e1 : goR (U.s0 3, t, s) false = nrow (U.s0 3, t, s) := rfl
  have r1 := nrow_some (s := U.s0 3) (t := (t, s)) (by show (1 : Int) < 3; omega)
  obtain ⟨x1, x2, _⟩ := hd.read (d := (U.s0 3, t, s)) hm (k := 1) (by omega) (by omega)
  obtain ⟨y1, y2, _⟩ := hd.read (d := rdD (U.s0 3, t, s) 1) x2 (k := 3) (by omega) (by omega)
  rw [a1] at x1
  rw [a3] at y1
  refine ⟨(rdD (rdD (U.s0 3, t, s) 1) 3).2, ?_, y2⟩
  rw [e1, r1]
  show (askD ({ (rdD (rdD (U.s0 3, t, s) 1) 3).1 with x := rdV (U.s0 3, t, s) 1, y := rdV (rdD (U.s0 3, t, s) 1) 3 }, (rdD (rdD (U.s0 3, t, s) 1) 3).2) 1, askT (rdV (rdD (U.s0 3, t, s) 1) 3) (rdV (U.s0 3, t, s) 1)) = _
  rw [x1, y1]
  rfl
theorem fixed_two {f : Int → V} (a1 : f 1 = kn 3) (a2 : f 2 = kn 1) (a3 : f 3 = kn 2) {t1 : TS × H.St} (hm : Mt 3 t1.1 t1.2 f) :
    ∃ t2 : TS × H.St, goR (sf1, t1) true = ((sf2, t2), askT (kn 1) (kn 2)) ∧ Mt 3 t2.1 t2.2 (U.swp f 1 3) := by
  have hd := hd_mt (n := 3) (by omega)
  have e1 : goR (sf1, t1) true = endsR (sf1, t1) true := rfl
  obtain ⟨p1, p2, _⟩ := hd.put (d := (sf1, t1)) hm (a := 1) (b := 3) (by omega) (by omega) (by omega) (by omega) a1.symm a3.symm
  have p1' : putE (sf1, t1) (sf1, t1).1.lo (sf1, t1).1.y (sf1, t1).1.up (sf1, t1).1.x = 0 := p1
  obtain ⟨P2, hP2⟩ : ∃ P2, (putD (sf1, t1) (sf1, t1).1.lo (sf1, t1).1.y (sf1, t1).1.up (sf1, t1).1.x).2 = P2 := ⟨_, rfl⟩
  have p2' : Mt 3 P2.1 P2.2 (U.swp f 1 3) := by rw [← hP2]; exact p2
  have b2 : U.swp f 1 3 2 = kn 1 := by rw [U.swp_at, if_neg (by omega), if_neg (by omega)]; exact a2
  have b1 : U.swp f 1 3 1 = kn 2 := by rw [U.swp_at, if_neg (by omega), if_pos rfl]; exact a3
  obtain ⟨x1, x2, _⟩ := hd.read (d := ({ sf1 with p := 2 }, P2)) p2' (k := 2) (by omega) (by omega)
  obtain ⟨y1, y2, _⟩ := hd.read (d := rdD ({ sf1 with p := 2 }, P2) 2) x2 (k := 1) (by omega) (by omega)
  rw [b2] at x1
  rw [b1] at y1
  refine ⟨(rdD (rdD ({ sf1 with p := 2 }, P2) 2) 1).2, ?_, y2⟩
  rw [e1, ends_yes, hP2, p1', if_neg (by simp), ends_two (by show ¬ (3 : Int) - 1 = 1; omega)]
  show (askD ({ ({ sf1 with p := 2 } : SS) with x := rdV ({ sf1 with p := 2 }, P2) 2, y := rdV (rdD ({ sf1 with p := 2 }, P2) 2) 1 }, (rdD (rdD ({ sf1 with p := 2 }, P2) 2) 1).2) 2, askT (rdV ({ sf1 with p := 2 }, P2) 2) (rdV (rdD ({ sf1 with p := 2 }, P2) 2) 1)) = _
  rw [x1, y1]
  rfl
theorem fixed_three {g : Int → V} (b1 : g 1 = kn 2) (b2 : g 2 = kn 1) {t2 : TS × H.St} (hm : Mt 3 t2.1 t2.2 g) :
    ∃ t3 : TS × H.St, goR (sf2, t2) true = ((endS 0, t3), endT 0) ∧ Mt 3 t3.1 t3.2 (U.swp g 2 1) := by
  have hd := hd_mt (n := 3) (by omega)
  have e1 : goR (sf2, t2) true = lowR (sf2, t2) true := rfl
  obtain ⟨p1, p2, _⟩ := hd.put (d := (sf2, t2)) hm (a := 2) (b := 1) (by omega) (by omega) (by omega) (by omega) b2.symm b1.symm
  have p1' : putE (sf2, t2) (sf2, t2).1.p (sf2, t2).1.y (sf2, t2).1.lo (sf2, t2).1.x = 0 := p1
  obtain ⟨P2, hP2⟩ : ∃ P2, (putD (sf2, t2) (sf2, t2).1.p (sf2, t2).1.y (sf2, t2).1.lo (sf2, t2).1.x).2 = P2 := ⟨_, rfl⟩
  have p2' : Mt 3 P2.1 P2.2 (U.swp g 2 1) := by rw [← hP2]; exact p2
  refine ⟨P2, ?_, p2'⟩
  rw [e1, low_yes, hP2, p1', if_neg (by simp), split_two (by show (3 : Int) - 1 = 2; omega)]
  show nrow ({ sf2 with lo := 0, up := 0 }, P2) = _
  rw [nrow_end (by show ¬ (0 : Int) < 0; omega) rfl]
  rfl
theorem sf_fit : Fit (U.s0 3) ∧ Fit sf1 ∧ Fit sf2 := by
  have n0 : U.Nx 3 (U.s0 3) (fun _ => nil) 9 := .inl ⟨rfl, by have := U.sq_top 3; omega⟩
  have n1 : U.Nx 3 sf1 (fun k => if k = 1 then kn 3 else kn 2) (U.lft sf1) := .inr ⟨⟨fun r hr => (by cases hr), by show (1 : Int) < 3; omega, by show (1 : Int) ≤ 1; omega, by show (3 : Int) ≤ ((3 : Nat) : Int); omega, .inl ⟨rfl, rfl, rfl⟩⟩, Int.le_refl _⟩
  have n2 : U.Nx 3 sf2 (fun k => if k = 1 then kn 2 else kn 1) (U.lft sf2) := .inr ⟨⟨fun r hr => (by cases hr), by show (1 : Int) < 3; omega, by show (1 : Int) ≤ 1; omega, by show (3 : Int) ≤ ((3 : Nat) : Int); omega, .inr (.inl ⟨rfl, by show (1 : Int) + 1 < 3; omega, rfl, rfl, rfl⟩)⟩, Int.le_refl _⟩
  exact ⟨(n0.fit (by omega) (by show 0 ≤ 900000; omega)).1, (n1.fit (by omega) (by show 0 ≤ 900000; omega)).1, (n2.fit (by omega) (by show 0 ≤ 900000; omega)).1⟩
end Go.Proofs.YtkmopcanaalemabGreat

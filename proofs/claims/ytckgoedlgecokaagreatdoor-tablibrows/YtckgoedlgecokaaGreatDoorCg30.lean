/- Two tables in one memory: carry, Move, Unpack and is. -/
import Derived.Test.YtckgoedlgecokaaGreatDoorCg29
import Derived.Test.YtckgoedlgecokaaGreatDoorCg25
namespace Go.Proofs.YtckgoedlgecokaaGreatDoor
open Go.RowKit
section
variable {Kp : Nat → Prop} {w w' : World} {T S hb c T' S' hb' c' : Nat} {a a' : Int} {K K' : Nat} {f f' : Int → V}
theorem Tw.lt {No : Nat → Prop} (h : Tw No w T S hb c a K f) : T < w.heap.size ∧ ¬ No T := by
  obtain ⟨A, b, g, t, s, h1, h2⟩ := h.ex
  exact ⟨by have := h1.tm.pm.ltA; have := h1.tm.pm.ltB; omega, h1.nT⟩
theorem D2.ne (h : D2 Kp w T S hb c a K f T' S' hb' c' a' K' f') : T ≠ T' := fun e => by
  obtain ⟨N1, N2, h1, h2, h3, h4⟩ := h.ex
  exact (h4 T h1.lt.1).elim h1.lt.2 (fun q => h2.lt.2 (e ▸ q))
theorem D2.cell (h : D2 Kp w T S hb c a K f T' S' hb' c' a' K' f') {X : Nat} (hX : Kp X) (i : Nat) (v : Value) : D2 Kp (w.drew.setCell ⟨X, i, none⟩ v) T S hb c a K f T' S' hb' c' a' K' f' := by
  obtain ⟨N1, N2, h1, h2, h3, h4⟩ := h.ex
  exact ⟨N1, N2, h1.drew.cell (h3 X hX).1 _, h2.drew.cell (h3 X hX).2 _, h3, fun g q => h4 g (by simpa [World.setCell] using q)⟩
theorem D2.more {c2 c2' : Nat} (h : D2 Kp w T S hb c a K f T' S' hb' c' a' K' f') (h1 : c ≤ c2) (h2 : c' ≤ c2') : D2 Kp w T S hb c2 a K f T' S' hb' c2' a' K' f' := by
  obtain ⟨N1, N2, t1, t2, h3, h4⟩ := h.ex
  exact ⟨N1, N2, t1.more h1, t2.more h2, h3, h4⟩
theorem D2.sub {Kq : Nat → Prop} (h : D2 Kp w T S hb c a K f T' S' hb' c' a' K' f') (hk : ∀ g, Kq g → Kp g) : D2 Kq w T S hb c a K f T' S' hb' c' a' K' f' := by
  obtain ⟨N1, N2, t1, t2, h3, h4⟩ := h.ex
  exact ⟨N1, N2, t1, t2, fun g q => h3 g (hk g q), h4⟩
theorem D2.box (h : D2 Kp w T S hb c a K f T' S' hb' c' a' K' f') (o : Obj) : D2 (fun g => Kp g ∨ g = w.heap.size) (w.alloc o) T S hb c a K f T' S' hb' c' a' K' f' ∧ ∀ g, Kp g → g < w.heap.size := by
  obtain ⟨N1, N2, t1, t2, h3, h4⟩ := h.ex
  have e : (w.alloc o).heap.size = w.heap.size + 1 := by simp
  refine ⟨⟨_, _, t1.news (b1 w o), t2.news (b1 w o), fun g q => ?_, fun g q => ?_⟩, fun g q => t1.nos (h3 g q).1⟩
  · rcases q with q | q
    · exact ⟨.inl (h3 g q).1, .inl (h3 g q).2⟩
    · exact ⟨.inr ⟨by omega, by omega⟩, .inr ⟨by omega, by omega⟩⟩
  · rcases Nat.lt_or_ge g w.heap.size with z | z
    · exact (h4 g z).elim (fun y => .inl (.inl y)) (fun y => .inr (.inl y))
    · exact .inl (.inr ⟨z, q⟩)
theorem D2.fv (h : D2 Kp w T S hb c a K f T' S' hb' c' a' K' f') {x : Int} (hx : I64 x) : fm (f x) = true := by
  obtain ⟨N1, N2, t1, t2, h3, h4⟩ := h.ex
  exact t1.fv hx
set_option maxRecDepth 20000 in
set_option maxHeartbeats 2000000 in
theorem carry_two {X : Nat} {fuel made : Int} (h : D2 Kp w T S hb c a K f T' S' hb' c' a' K' f') (sp : Sp w X fuel made) (hX : Kp X) (hn : made ≠ fuel) (h0 : 0 ≤ made) (h1 : made ≤ 1000000) (hc : c ≤ 600000) (hc' : c' ≤ 600000) (i j : Int) (hi : I64 i) (hj : I64 j) (hw : a' ≤ j ∧ j < a' + K') :
    Calls Tryz.prog 28 #[.pointer (some ⟨X, 0, none⟩), tp T, .int .i64 i, tp T', .int .i64 j] w fun e w' => e = .returned (.int .i64 0) ∧ D2 Kp w' T S hb (c + 1) a K f T' S' hb' (c' + 7) a' K' (fupd f' j (f i)) ∧ Sp w' X fuel (made + 1) ∧ Keep (fun g => Kp g ∧ g ≠ X) w w' := by
  have C := step_yes sp hn h0 h1
  have H2 := h.cell hX 1 (.int .i64 (made + 1))
  have S2 : Sp (w.drew.setCell ⟨X, 1, none⟩ (.int .i64 (made + 1))) X fuel (made + 1) := sp.drew.set _
  have K2 : Keep (fun g => Kp g ∧ g ≠ X) w (w.drew.setCell ⟨X, 1, none⟩ (.int .i64 (made + 1))) := ((Keep.refl _ w).drew).set (p := ⟨X, 1, none⟩) (fun q => q.2 rfl) _
  have fv := h.fv hi
  obtain ⟨W2, hW2⟩ : ∃ W2, w.drew.setCell ⟨X, 1, none⟩ (.int .i64 (made + 1)) = W2 := ⟨_, rfl⟩
  rw [hW2] at C H2 S2 K2
  have C2 := H2.run fun N _ t => t.get31 (by omega) i hi
  have HS : Hid (Sp W2 X fuel (made + 1) ∧ Keep (fun g => Kp g ∧ g ≠ X) w W2) := ⟨S2, K2⟩
  clear hW2 H2 S2 K2 sp h hn
  go_enter Tryz.func28, Tryz.ntmps28
  go_wp2_with fail
  refine C.mono ?_
  rintro e w1 ⟨rfl, rfl⟩
  clear C
  go_wp2_with fail
  refine C2.mono ?_
  rintro e w3 ⟨rfl, t3, k3⟩
  have C3 := t3.swap.run fun N _ t => t.set29 (by omega) j hj (f i) (.inr hw) fv
  have HS3 : Hid (Sp w3 X fuel (made + 1) ∧ Keep (fun g => Kp g ∧ g ≠ X) w w3) := ⟨HS.out.1.kept k3 hX, HS.out.2.trans (k3.sub fun g q => q.1)⟩
  clear C2 t3 k3 HS
  go_wp2_with fail
  refine C3.mono ?_
  rintro e w4 ⟨rfl, t4, k4⟩
  have HS4 : Hid (D2 Kp w4 T S hb (c + 1) a K f T' S' hb' (c' + 7) a' K' (fupd f' j (f i)) ∧ Sp w4 X fuel (made + 1) ∧ Keep (fun g => Kp g ∧ g ≠ X) w w4) := ⟨t4.swap, HS3.out.1.kept k4 hX, HS3.out.2.trans (k4.sub fun g q => q.1)⟩
  clear C3 t4 k4 HS3
  go_wp2
  go_ret
  exact ⟨rfl, HS4.out⟩
theorem Tw.cells {No : Nat → Prop} (h : Tw No w T S hb c a K f) : (∃ u, w.cell? ⟨T, 0, none⟩ = some u) ∧ ∀ j, w.frozen? ⟨T, j, none⟩ = false := by
  obtain ⟨A, b, g, t, s, h1, h2⟩ := h.ex
  exact ⟨⟨_, h1.tm.c0⟩, h1.tm.fz⟩
theorem D2.neq (h : D2 Kp w T S hb c a K f T' S' hb' c' a' K' f') : (binOp .eql 26 (tp T) (tp T')).run Tryz.prog w = .ok (.bool false) w := by
  obtain ⟨N1, N2, t1, t2, h3, h4⟩ := h.ex
  obtain ⟨⟨u, c1⟩, f1⟩ := t1.cells
  obtain ⟨⟨v, c2⟩, f2⟩ := t2.cells
  exact neT h.ne c1 c2 f1 f2
/-- What Move's loop keeps, between two tables. -/
structure MJ (Kp : Nat → Prop) (w : World) (X : Nat) (T S hb c : Nat) (a : Int) (K : Nat) (f : Int → V) (T' S' hb' c' : Nat) (a' : Int) (K' : Nat) (f' : Int → V) (fuel made : Int) (wx : World) : Prop where
  d : D2 (fun g => Kp g ∨ g = X) wx T S hb c a K f T' S' hb' c' a' K' f'
  sp : Sp wx X fuel made
  kp : Keep Kp w wx
  ne : ∀ g, Kp g → g ≠ X
theorem MJ.carry {X : Nat} {fuel made : Int} {wx : World} (h : MJ Kp w X T S hb c a K f T' S' hb' c' a' K' f' fuel made wx) (hn : made ≠ fuel) (h0 : 0 ≤ made) (h1 : made ≤ 1000000) (hc : c ≤ 600000) (hc' : c' ≤ 600000) (i j : Int) (hi : I64 i) (hj : I64 j) (hw : a' ≤ j ∧ j < a' + K') :
    Calls Tryz.prog 28 #[.pointer (some ⟨X, 0, none⟩), tp T, .int .i64 i, tp T', .int .i64 j] wx fun e w' => e = .returned (.int .i64 0) ∧ MJ Kp w X T S hb (c + 1) a K f T' S' hb' (c' + 7) a' K' (fupd f' j (f i)) fuel (made + 1) w' :=
  (carry_two h.d h.sp (.inr rfl) hn h0 h1 hc hc' i j hi hj hw).mono fun _ _ ⟨he, hd, hs, hk⟩ => ⟨he, ⟨hd, hs, h.kp.trans (hk.sub fun g q => ⟨.inl q, h.ne g q⟩), h.ne⟩⟩
set_option maxRecDepth 20000 in
set_option maxHeartbeats 4000000 in
theorem move_two (h : D2 Kp w T S hb c a K f T' S' hb' c' a' K' f') (hc : c ≤ 400000) (hc' : c' ≤ 400000) (fr e p : Int) (m : Nat) (hM : MN fr e p m) (hw : a' ≤ p ∧ p + m < a' + K') (fuel : Int) (hf : (m : Int) + 1 ≤ fuel) (_ : fuel ≤ 1000000) :
    Calls Tryz.prog 19 #[tp T, tp T', .int .i64 fr, .int .i64 e, .int .i64 p, .int .i64 fuel] w fun r w' => r = .returned (.tuple #[.int .i64 ((m : Int) + 1), .int .i64 0]) ∧ D2 Kp w' T S hb (c + 9000) a K f T' S' hb' (c' + 9000) a' K' (mvF f f' fr p ((m : Int) + 1)) ∧ Keep Kp w w' := by
  obtain ⟨⟨a1, a2⟩, ⟨a3, a4⟩, rfl, ⟨a5, a6⟩⟩ := hM
  have CG := gap_any fr (fr + m) (by omega) ⟨by omega, by omega⟩ ⟨by omega, by omega⟩ w
  have f0 : ¬ fuel < 0 := by omega
  have g0 : ¬ fr + (m : Int) < fr := by omega
  have g1 : ¬ (4611686018427387904 : Int) < fr + (m : Int) - fr := by omega
  have w1 : IntKind.i64.wrap (fr + (m : Int) - fr) = (m : Int) := by rw [IntKind.wrap_i64]; omega
  have w2 : IntKind.i64.wrap (9223372036854775807 - (m : Int)) = 9223372036854775807 - (m : Int) := by rw [IntKind.wrap_i64]; omega
  have g2 : ¬ 9223372036854775807 - (m : Int) < p := by omega
  have w3 : IntKind.i64.wrap ((m : Int) + 1) = (m : Int) + 1 := by rw [IntKind.wrap_i64]; omega
  have hbx := h.box (.cells #[.int .i64 fuel, .int .i64 0] 66)
  have eT := hbx.1.neq
  have HI : Hid (MJ Kp w w.heap.size T S hb c a K f T' S' hb' c' a' K' (mvF f f' fr p 0) fuel 0 (w.alloc (.cells #[.int .i64 fuel, .int .i64 0] 66))) := ⟨by rw [mvF_beg]; exact hbx.1, Sp.made w fuel 66, Keep.of (b1 _ _), fun g q => by have := hbx.2 g q; omega⟩
  clear h hbx
  go_enter Tryz.func19, Tryz.ntmps19
  go_wp2_with (go_at_call 30; refine CG.mono ?_; rintro e wq ⟨rfl, hwq⟩; obtain rfl : w = wq := hwq.symm)
  go_loopw [65] (fun iv wx => ∃ n : Nat, iv = .int .i64 (n : Nat) ∧ n ≤ m + 1 ∧ Hid (MJ Kp w w.heap.size T S hb (c + n) a K f T' S' hb' (c' + 7 * n) a' K' (mvF f f' fr p (n : Nat)) fuel (n : Nat) wx)) (fun iv _ => m + 1 - (intOf iv).toNat)
  case atStart => exact ⟨0, rfl, by omega, HI⟩
  case round =>
    clear HI CG
    obtain ⟨n, rfl, hn, HI⟩ := hrel
    by_cases hlt : n < m + 1
    · have h1 : (n : Int) < (m : Int) + 1 := by omega
      have wn : IntKind.i64.wrap ((n : Int) + 1) = (n : Int) + 1 := by rw [IntKind.wrap_i64]; omega
      have wf : IntKind.i64.wrap (fr + (n : Int)) = fr + (n : Int) := by rw [IntKind.wrap_i64]; omega
      have wp : IntKind.i64.wrap (p + (n : Int)) = p + (n : Int) := by rw [IntKind.wrap_i64]; omega
      have hms : m + 1 - (n + 1) < m + 1 - n := by omega
      have C := HI.out.carry (by omega) (by omega) (by omega) (by omega) (by omega) (fr + (n : Int)) (p + (n : Int)) ⟨by omega, by omega⟩ ⟨by omega, by omega⟩ ⟨by omega, by omega⟩
      rw [mvF_step f f' fr p (n := (n : Int)) (by omega)] at C
      go_wp2_with fail
      refine C.mono ?_
      rintro e w3 ⟨rfl, h3⟩
      have HN : Hid (MJ Kp w w.heap.size T S hb (c + (n + 1)) a K f T' S' hb' (c' + 7 * (n + 1)) a' K' (mvF f f' fr p ((n + 1 : Nat) : Int)) fuel ((n + 1 : Nat) : Int) w3) := by
        rw [show ((n + 1 : Nat) : Int) = (n : Int) + 1 by omega, show c' + 7 * (n + 1) = c' + 7 * n + 7 by omega]; exact h3
      clear C h3 HI wf wp
      go_wp2
      go_roundw
      case rel => exact ⟨n + 1, by go_num, by omega, HN⟩
      case measure => first | omega | (simp only [intOf]; omega) | (simp; omega)
    · have h1 : ¬ (n : Int) < (m : Int) + 1 := by omega
      have e0 : n = m + 1 := by omega
      subst e0
      have c1 := HI.out.sp.c1
      have HE : Hid (D2 Kp wr T S hb (c + 9000) a K f T' S' hb' (c' + 9000) a' K' (mvF f f' fr p ((m : Int) + 1)) ∧ Keep Kp w wr) := by
        have d := HI.out.d
        rw [show ((m + 1 : Nat) : Int) = (m : Int) + 1 by omega] at d
        exact ⟨(d.sub fun g q => .inl q).more (by omega) (by omega), HI.out.kp⟩
      clear HI
      go_wp2
      go_ret2
      exact ⟨rfl, HE.out⟩
/-- What Unpack answers, beside another table. -/
structure UQ (Kp : Nat → Prop) (w : World) (T S hb c : Nat) (a : Int) (K : Nat) (f : Int → V) (T' S' hb' c' : Nat) (a' : Int) (K' : Nat) (f' : Int → V) (n : Nat) (i : Int) (e : Ending) (w' : World) : Prop where
  ex : ∃ ad cp, e = .returned (.tuple #[.slice ad n cp, .int .i64 0]) ∧ Lv w' w.heap.size (.slice ad n cp) n (fun k => f (i + k)) ∧ Keep Kp w w' ∧ D2 (fun g => Kp g ∨ (Value.slice ad n cp).ownBlock = some g) w' T S hb c a K f T' S' hb' c' a' K' f'
theorem unpack_two (h : D2 Kp w T S hb c a K f T' S' hb' c' a' K' f') (hc : c ≤ 400000) (i j : Int) (n : Nat) (hj : j = i + n - 1) (hn : n ≤ 200) (h1 : -100000 ≤ i ∧ i ≤ 100000) : Calls Tryz.prog 15 #[tp T, .int .i64 i, .int .i64 j] w (UQ Kp w T S hb (c + 300) a K f T' S' hb' c' a' K' f' n i) := by
  obtain ⟨N1, N2, t1, t2, h3, h4⟩ := h.ex
  refine (unpack_any t1 hc i j n hj hn h1).mono fun e w' ⟨ad, cp, he, hl, hk, No', t3, n1, n2⟩ => ⟨ad, cp, he, hl, hk.sub fun g q => (h3 g q).1, No', _, t3, t2.frameK hk (fun g q z => (h4 g q).resolve_right z), fun g q => ?_, fun g q => ?_⟩
  · rcases q with q | q
    · exact ⟨n1 g (h3 g q).1, .inl (h3 g q).2⟩
    · exact ⟨n2 g q, .inr (hl.own.lt g q)⟩
  · rcases Nat.lt_or_ge g w.heap.size with z | z
    · exact (h4 g z).elim (fun y => .inl (n1 g y)) (fun y => .inr (.inl y))
    · exact .inr (.inr ⟨z, q⟩)
/-- An empty table's window may lie anywhere. -/
theorem Mw.shift {t : TS} {s : H.St} (h : Mw a K (rowf []) t s) (ti : TI t.p) (hI : ∀ i : Nat, i < K → I64 (a + i)) (b : Int) : Mw b K (rowf []) t s :=
  ⟨h.hh, h.tb, h.lm, h.n, h.z, fun k hk => by
    obtain ⟨i, h1, rfl⟩ := h.wd k hk
    have q := (ti.mem_pres.1 hk).2
    rw [h.mp _ (hI i h1), rowf_out (by simp; omega)] at q
    exact absurd rfl q, h.mp, h.fv, h.kk⟩
theorem Tw.shift {No : Nat → Prop} (h : Tw No w T S hb c a K (rowf [])) (hI : ∀ i : Nat, i < K → I64 (a + i)) (b : Int) : Tw No w T S hb c b K (rowf []) := by
  obtain ⟨A, b', g, t, s, h1, h2⟩ := h.ex
  exact ⟨A, b', g, t, s, h1, h2.shift h1.ti hI b⟩
end
end Go.Proofs.YtckgoedlgecokaaGreatDoor

/- The walk of TablibCopies. -/
namespace Go.Proofs.YtckgoedlgecokaaGreatDoor
open Go.RowKit
theorem ofs_facts (k : Int) : ∃ U r : Nat, IntKind.u64.wrap k = (U : Int) ∧ (U : Int).tmod 2000 = (r : Int) ∧ IntKind.u64.wrap (r : Int) = (r : Int) ∧ IntKind.i64.wrap (r : Int) = (r : Int) ∧ wrap64 (r : Int) = (r : Int) ∧ IntKind.i64.wrap ((r : Int) - 1000) = (r : Int) - 1000 ∧ r < 2000 := by
  obtain ⟨U, r, h1, h2, h3, h4, h5, h6, h7⟩ := pos_facts k 2000 (by omega) (by omega)
  exact ⟨U, r, h1, h3, h4, h5, h6, by rw [IntKind.wrap_i64]; omega, h7⟩
theorem lv_congr {w : World} {B : Nat} {v : Value} {n : Nat} {F G : Nat → V} (h : Lv w B v n F) (e : ∀ i, i < n → F i = G i) : Lv w B v n G := ⟨by rw [← cellsV_congr e]; exact h.own⟩
set_option maxRecDepth 20000 in
set_option maxHeartbeats 4000000 in
theorem copies_walk {w : World} {av : Option Addr} {cv L : Nat} {F : Nat → V} (hv : Vin w av L F) (hL : L ≤ 9223372036854775807) (k : Int) :
    Calls Tryz.prog 8 #[.slice av L cv, .int .i64 k] w fun e w' => e = .returned (.bool true) ∧ Below w.heap.size w w' := by
  have CF := fixed_any w
  have HV : Hid (Vin w av L F) := hv
  clear hv
  obtain ⟨U, r, hU, u2, u3, u4, u5, u6, hr⟩ := ofs_facts k
  go_enter Tryz.func8, Tryz.ntmps8
  go_wp2_with fail
  refine CF.mono ?_
  rintro e w1 ⟨rfl, b1⟩
  have C1 := row_walk (cap := cv) (HV.out.below b1) hL
  have HB1 : Hid (Below w.heap.size w w1) := b1
  clear CF b1
  go_wp2_with fail
  refine C1.mono ?_
  rintro e w2 ⟨T, v, rfl, R1⟩
  have b2 : Below w.heap.size w w2 := HB1.out.trans (R1.bl.mono HB1.out.size)
  have C2 := row_walk (cap := 0) (Vin.none w2 F) (by omega)
  obtain ⟨l, hl⟩ : ∃ l, rwq F L = l := ⟨_, rfl⟩
  have HG : Hid (Gl l ∧ l.length ≤ 100) := ⟨by rw [← hl]; exact rwq_gl F L, by rw [← hl]; exact rwq_len F L⟩
  obtain ⟨N1, t1, n1, n1'⟩ := R1.tw
  have L1 := R1.lv
  rw [hl] at t1 L1
  obtain ⟨n, hn⟩ : ∃ n, l.length = n := ⟨_, rfl⟩
  have HN : Hid (l.length = n) := hn
  have hn100 : n ≤ 100 := by rw [← hn]; exact HG.out.2
  rw [hn] at t1 L1
  obtain ⟨a1, c1, rfl⟩ := L1.form
  have H1 : Hid (Tw N1 w2 T (w1.heap.size + 1) w1.heap.size (10 + 137 * n) 1 200 (rowf l) ∧ (∀ g, g < w1.heap.size → N1 g) ∧ (∀ q, (Value.slice a1 n c1).ownBlock = some q → N1 q) ∧ Lv w2 w1.heap.size (.slice a1 n c1) n fun i => l.getD i nil) := ⟨t1, n1, n1', L1⟩
  have HB2 : Hid (Below w.heap.size w w2) := b2
  clear C1 R1 t1 n1 b2 hl L1 n1' hn
  go_wp2_with fail
  refine C2.mono ?_
  rintro e w3 ⟨T2, v2, rfl, R2⟩
  obtain ⟨N2, t2, n2, _⟩ := R2.tw
  obtain ⟨a2, c2, rfl⟩ := R2.lv.form
  have t2' : Tw N2 w3 T2 (w2.heap.size + 1) w2.heap.size 10 ((r : Int) - 1000) 200 (rowf []) := Tw.shift (a := 1) t2 (fun i hi => ⟨by omega, by omega⟩) _
  have D : Hid (D2 (fun g => g < w.heap.size ∨ (Value.slice a1 n c1).ownBlock = some g) w3 T (w1.heap.size + 1) w1.heap.size (10 + 137 * n) 1 200 (rowf l) T2 (w2.heap.size + 1) w2.heap.size 10 ((r : Int) - 1000) 200 (rowf [])) := D2.of H1.out.1 R2.bl t2' (fun g q => by
    rcases q with q | q
    · exact ⟨H1.out.2.1 g (Nat.lt_of_lt_of_le q HB1.out.size), n2 g (Nat.lt_of_lt_of_le q HB2.out.size)⟩
    · exact ⟨H1.out.2.2.1 g q, n2 g (H1.out.2.2.2.own.lt g q).2⟩) n2
  have HB3 : Hid (Below w.heap.size w w3 ∧ Lv w3 w1.heap.size (.slice a1 n c1) n fun i => l.getD i nil) := ⟨HB2.out.trans (R2.bl.mono HB2.out.size), H1.out.2.2.2.below R2.bl⟩
  clear C2 R2 t2 n2 H1 t2' HB2
  obtain ⟨f2, hf2, C3⟩ : ∃ f2 : Int → V, (∀ i : Nat, i < n → f2 ((r : Int) - 1000 + i) = l.getD i nil) ∧ Calls Tryz.prog 19 #[tp T, tp T2, .int .i64 1, .int .i64 n, .int .i64 ((r : Int) - 1000), .int .i64 1000] w3 fun e w' => e = .returned (.tuple #[.int .i64 n, .int .i64 0]) ∧ D2 (fun g => g < w.heap.size ∨ (Value.slice a1 n c1).ownBlock = some g) w' T (w1.heap.size + 1) w1.heap.size (10 + 137 * n + 9000) 1 200 (rowf l) T2 (w2.heap.size + 1) w2.heap.size (10 + 9000) ((r : Int) - 1000) 200 f2 ∧ Keep (fun g => g < w.heap.size ∨ (Value.slice a1 n c1).ownBlock = some g) w3 w' := by
    by_cases h0 : n = 0
    · subst h0
      exact ⟨rowf [], fun i hi => absurd hi (Nat.not_lt_zero _), (move_none T T2 1 0 _ 1000 (by omega) (by omega) w3).mono fun e w' ⟨h1, h2⟩ => ⟨h1, h2 ▸ D.out.more (by omega) (by omega), h2 ▸ Keep.refl _ _⟩⟩
    · obtain ⟨m, rfl⟩ : ∃ m, n = m + 1 := ⟨n - 1, by omega⟩
      refine ⟨mvF (rowf l) (rowf []) 1 ((r : Int) - 1000) ((m : Int) + 1), fun i hi => ?_, ?_⟩
      · unfold mvF
        rw [if_pos (by omega), rowf_in (by omega) (by have := HN.out; omega)]
        congr 1; omega
      · have := move_two D.out (by omega) (by omega) 1 ((m + 1 : Nat) : Int) ((r : Int) - 1000) m ⟨⟨by omega, by omega⟩, ⟨by omega, by omega⟩, by omega, ⟨by omega, by omega⟩⟩ ⟨by omega, by omega⟩ 1000 (by omega) (by omega)
        rw [show ((m + 1 : Nat) : Int) = (m : Int) + 1 by omega] at this ⊢
        exact this
  have HF2 : Hid (∀ i : Nat, i < n → f2 ((r : Int) - 1000 + i) = l.getD i nil) := hf2
  clear D hf2
  go_wp2_with fail
  refine C3.mono ?_
  rintro e w4 ⟨rfl, D4, k4⟩
  have L4 := HB3.out.2.keep k4 (fun g q => .inr q)
  have HB4 : Hid (Below w.heap.size w w4 ∧ Lv w4 w1.heap.size (.slice a1 n c1) n fun i => l.getD i nil) := ⟨HB3.out.1.trans (k4.below HB3.out.1.size fun g q => .inl q), L4⟩
  have C4 := D4.run fun N hN t => is_row (l := l) t HG.out.1 (by omega) (by have := HN.out; omega) w1.heap.size a1 c1 (by rw [HN.out]; exact L4) (fun q e => hN q (.inr (by rw [HN.out] at e; exact e)))
  rw [HN.out] at C4
  clear C3 D4 k4 L4 HB3
  go_wp2_with fail
  refine C4.mono ?_
  rintro e w5 ⟨rfl, D5, k5⟩
  have HB5 : Hid (Below w.heap.size w w5 ∧ Lv w5 w1.heap.size (.slice a1 n c1) n fun i => l.getD i nil) := ⟨HB4.out.1.trans (k5.below HB4.out.1.size fun g q => .inl q), HB4.out.2.keep k5 (fun g q => .inr q)⟩
  have C5 := unpack_two D5 (by omega) 1 n n (by omega) (by omega) ⟨by omega, by omega⟩
  clear C4 D5 k5 HB4
  go_wp2_with fail
  refine C5.mono ?_
  rintro e w6 ⟨a6, c6, rfl, L6, k6, D6⟩
  have HB6 : Hid (Below w.heap.size w w6 ∧ Lv w6 w1.heap.size (.slice a1 n c1) n (fun i => l.getD i nil) ∧ Lv w6 w5.heap.size (.slice a6 n c6) n fun i => l.getD i nil) := ⟨HB5.out.1.trans (k6.below HB5.out.1.size fun g q => .inl q), HB5.out.2.keep k6 (fun g q => .inr q), lv_congr L6 fun i hi => by
    rw [rowf_in (by omega) (by have := HN.out; omega)]; congr 1; omega⟩
  have wa : IntKind.i64.wrap ((r : Int) - 1000 + (n : Int)) = (r : Int) - 1000 + (n : Int) := by rw [IntKind.wrap_i64]; omega
  have wb : IntKind.i64.wrap ((r : Int) - 1000 + (n : Int) - 1) = (r : Int) - 1000 + (n : Int) - 1 := by rw [IntKind.wrap_i64]; omega
  have C6 := unpack_two D6.swap (by omega) ((r : Int) - 1000) ((r : Int) - 1000 + (n : Int) - 1) n (by omega) (by omega) ⟨by omega, by omega⟩
  clear C5 D6 k6 L6 HB5
  go_wp2_with fail
  refine C6.mono ?_
  rintro e w7 ⟨a7, c7, rfl, L7, k7, D7⟩
  have HB7 : Hid (Below w.heap.size w w7 ∧ Lv w7 w1.heap.size (.slice a1 n c1) n (fun i => l.getD i nil) ∧ Lv w7 w5.heap.size (.slice a6 n c6) n (fun i => l.getD i nil) ∧ Lv w7 w6.heap.size (.slice a7 n c7) n fun i => l.getD i nil) := ⟨HB6.out.1.trans (k7.below HB6.out.1.size fun g q => .inl (.inl q)), HB6.out.2.1.keep k7 (fun g q => .inl (.inr q)), HB6.out.2.2.keep k7 (fun g q => .inr q), lv_congr L7 HF2.out⟩
  have C7 := same_any HB7.out.2.2.1 HB7.out.2.1 (by omega)
  clear C6 D7 k7 L7 HB6
  go_wp2_with fail
  refine C7.mono ?_
  rintro e w8 ⟨rfl, b8⟩
  have C8 := same_any (HB7.out.2.2.2.below b8) (HB7.out.2.1.below b8) (by omega)
  have HB8 : Hid (Below w.heap.size w w8) := bthen HB7.out.1 HB7.out.1.size b8
  clear C7 b8 HB7
  go_wp2_with fail
  refine C8.mono ?_
  rintro e w9 ⟨rfl, b9⟩
  have HB9 : Hid (Below w.heap.size w w9) := bthen HB8.out HB8.out.size b9
  clear C8 b9 HB8
  go_wp2
  go_ret
  exact ⟨rfl, HB9.out⟩
end Go.Proofs.YtckgoedlgecokaaGreatDoor

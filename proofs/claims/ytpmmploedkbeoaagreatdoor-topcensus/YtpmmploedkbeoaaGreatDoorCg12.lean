/- The walk of rehash. -/
import Derived.Test.YtpmmploedkbeoaaGreatDoorCg11
namespace Go.Proofs.YtpmmploedkbeoaaGreatDoor
open Go.RowKit

/-- What the census is asked about: keys, none twice. -/
structure Ask (p : Pa) (k : V) : Prop where
  ok : ∀ k', k' ∈ pres p ++ [k] → KOK k'
  nd : (pres p ++ [k]).Nodup
theorem TT.sz {No : Nat → Prop} {w : World} {T A b a S hb c : Nat} {t : TS} {s : H.St} (h : TT No w T A b a S hb c t s) {k : V} (ha : Ask t.p k) (W : World) (hW : Below w.heap.size w W) :
    Calls Tryz.prog 105 #[.pointer (some ⟨T, 1, none⟩), vv k] W fun e w' => e = .returned (.tuple #[.int .i64 (C.szA (ints (pres t.p ++ [k])) (oth (pres t.p ++ [k]) : Nat)), .int .i64 (C.szH (ints (pres t.p ++ [k])) (oth (pres t.p ++ [k]) : Nat)), .int .i64 (rsE t.p k)]) ∧ TT No w' T A b a S hb c t s ∧ Below w.heap.size w w' :=
  (sw_any k W (h.tm.pm.below hW) h.ti ha.ok).mono fun _ _ hh => ⟨hh.1, (h.below hW).below hh.2, bthen hW hW.size hh.2⟩

/-- The table over what leaves its own blocks. -/
theorem TT.hold {No : Nat → Prop} {w w' : World} {T A b a S hb c c' : Nat} {t : TS} {s s' : H.St} (h : TT No w T A b a S hb c t s) {v' : Value} (hp : H.Hp (Nx No T A b a) w' S hb c' v' s') (k : Keep (Nx No T A b a) w w') (iv : H.Inv 0 s') (hc : c ≤ c') : TT No w' T A b a S hb c' t s' :=
  ⟨h.tm.kept k (.inr (.inl rfl)) (.inr (.inr (.inl rfl))) (.inr (.inr (.inr (.inl rfl)))) (.inr (.inr (.inr (.inr rfl)))), ⟨v', hp⟩, h.nT, h.nA, h.nb, h.na, h.ti, iv, h.p0, by have := h.p1; omega⟩
theorem TT.tp_bad {No : Nat → Prop} {w : World} {T A b a S hb c : Nat} {t : TS} {s : H.St} (h : TT No w T A b a S hb c t s) (hc : c ≤ 800000) (n z : Nat) (hz : z ≤ 65536) (he : tpE s n z ≠ 0) (W : World) (hW : Below w.heap.size w W) :
    Calls Tryz.prog 100 #[.pointer (some ⟨S, 0, none⟩), .int .i64 (n : Nat), .int .i64 (z : Nat)] W fun e w' => e = .returned (.tuple #[zp, .int .i64 (tpE s n z)]) ∧ TT No w' T A b a S hb (c + 3) t (tpS s n z) ∧ Keep No w w' := by
  have h' := h.below hW
  obtain ⟨vb, hp⟩ := h'.hp
  unfold tpE tpS at *
  by_cases q : H.takeE s (n : Nat) = 0
  · rw [if_neg (by simpa using q)] at he
    rw [if_neg (by simpa using q), if_neg (by simpa using q), if_pos he]
    refine (tp_bad2 hp (by omega) h.iv n z hz q he).mono ?_
    rintro e w' ⟨rfl, ⟨v', hp'⟩, kk⟩
    exact ⟨rfl, h'.hold hp' kk ((h.iv.take _).give _) (by omega), (Keep.of hW).trans (kk.sub fun g q => .inl q)⟩
  · rw [if_pos q, if_pos q]
    refine (tp_bad1 hp (by omega) h.iv n z q).mono ?_
    rintro e w' ⟨rfl, ⟨v', hp'⟩, kk⟩
    exact ⟨rfl, (h'.hold hp' kk h.iv (by omega)).more (by omega), (Keep.of hW).trans (kk.sub fun g q => .inl q)⟩

abbrev N5 (No : Nat → Prop) (T A b a Ab bn an Fb : Nat) : Nat → Prop := fun g => Nx No T A b a g ∨ g = Ab ∨ g = bn ∨ g = an ∨ g = Fb
/-- Old parts, and new ones beside them. -/
structure Ra (No : Nat → Prop) (w0 w W : World) (T A b a S hb c Ab bn an Fb : Nat) (t : TS) (q : Pa) (x y : Int) (s : H.St) : Prop where
  fw : Fw w W Fb Ab bn an T 1 A b a q t.p x y t.sb t.nb
  hp : ∃ v', H.Hp (N5 No T A b a Ab bn an Fb) W S hb c v' s
  keep : Keep No w0 W
  tm : Tm W T A b a S t
  nw : ¬ No Ab ∧ ¬ No bn ∧ ¬ No an
  dF : T ≠ Fb
theorem TT.ra {No : Nat → Prop} {w w' : World} {T A b a S hb c n z Ab bn an : Nat} {t : TS} {s s3 : H.St} (h : TT No w T A b a S hb c t s) (k : Tk (Nx No T A b a) w w' S hb (c + 2) n z Ab bn an s3) (x y : Int) (hn : n ≤ 65536) (hz : Rt z) :
    Ra No w (w'.alloc (.cells #[.slice (some ⟨Ab, 0, none⟩) n n, .pointer (some ⟨bn, 0, none⟩), .int .i64 x, .int .i64 y] 128)) (w'.alloc (.cells #[.slice (some ⟨Ab, 0, none⟩) n n, .pointer (some ⟨bn, 0, none⟩), .int .i64 x, .int .i64 y] 128)) T A b a S hb (c + 2) Ab bn an w'.heap.size t (fresh n z) x y s3 ∧
      (w'.alloc (.cells #[.slice (some ⟨Ab, 0, none⟩) n n, .pointer (some ⟨bn, 0, none⟩), .int .i64 x, .int .i64 y] 128)).heap[Ab]? = some (.cells (zeros3 n) 37) := by
  have t1 := h.tm.kept k.keep (.inr (.inl rfl)) (.inr (.inr (.inl rfl))) (.inr (.inr (.inr (.inl rfl)))) (.inr (.inr (.inr (.inr rfl))))
  have R := R4.made w' (.slice (some ⟨Ab, 0, none⟩) n n) (.pointer (some ⟨bn, 0, none⟩)) (.int .i64 x) (.int .i64 y) 128
  have B := b1 w' (.cells #[.slice (some ⟨Ab, 0, none⟩) n n, .pointer (some ⟨bn, 0, none⟩), .int .i64 x, .int .i64 y] 128)
  have sz : (w'.alloc (.cells #[.slice (some ⟨Ab, 0, none⟩) n n, .pointer (some ⟨bn, 0, none⟩), .int .i64 x, .int .i64 y] 128)).heap.size = w'.heap.size + 1 := by simp
  generalize w'.alloc (.cells #[.slice (some ⟨Ab, 0, none⟩) n n, .pointer (some ⟨bn, 0, none⟩), .int .i64 x, .int .i64 y] 128) = W at *
  obtain ⟨v0, hp0⟩ := h.hp
  obtain ⟨v', hp⟩ := k.hp
  have l1 := h.tm.pm.ltA
  have l2 := h.tm.pm.ltB
  have l3 := h.tm.pm.pt.lta
  have l4 := h.tm.pm.pt.ltb
  have g := k.ge
  have g1 := k.ltA
  have g2 := k.pt.ltb
  have g3 := k.pt.lta
  have g4 := k.keep.size
  have no : ∀ g, No g → g < w.heap.size := fun g q => hp0.nos g (.inl q)
  have eA := B.block Ab g1
  refine ⟨⟨⟨⟨R.c0, R.c1, R.c2, R.c3, k.sl.block eA, fun j => by rw [World.frozen?_of_block (w := w') eA]; exact k.fA j, by omega, by omega, k.pt.below B, by omega, k.nAb, k.nAa, by omega, by omega⟩,
    t1.pm.below B, Keep.refl _ _, TI.fr0 hz hn, by omega, by omega, by omega, by omega⟩, ⟨v', Hp.sub (Hp.news hp B) (fun g q => ?_)⟩, (k.keep.sub fun g q => .inl q).bel B, t1.below B, ⟨fun q => ?_, fun q => ?_, fun q => ?_⟩, by omega⟩, eA.trans k.obj⟩
  · rcases q with q | q | q | q | q
    · exact .inl (.inl q)
    · exact .inl (.inr (.inl q))
    · exact .inl (.inr (.inr (.inl q)))
    · exact .inl (.inr (.inr (.inr q)))
    · exact .inr (by omega)
  · have := no _ q; omega
  · have := no _ q; omega
  · have := no _ q; omega
/-- Behind fill. -/
theorem Ra.filled {No : Nat → Prop} {w0 w W W' : World} {T A b a S hb c Ab bn an Fb : Nat} {t : TS} {q q' : Pa} {x y : Int} {s : H.St} (h : Ra No w0 w W T A b a S hb c Ab bn an Fb t q x y s) (hf : Fw W W' Fb Ab bn an T 1 A b a q' t.p x y t.sb t.nb) : Ra No w0 W W' T A b a S hb c Ab bn an Fb t q' x y s := by
  obtain ⟨v', hp⟩ := h.hp
  have k := hf.keep
  refine ⟨hf, ⟨v', Hp.frame hp k.os k.tape k.output k.size (fun g hg hn => k.block g hg ?_)⟩, h.keep.trans (k.sub fun g q => ?_), h.tm.kept k h.fw.dT h.fw.dA h.fw.db h.fw.da, h.nw, h.dF⟩
  · exact ⟨fun e => hn (.inr (.inl e)), fun e => hn (.inr (.inr (.inr (.inl e)))), fun e => hn (.inr (.inr (.inl e)))⟩
  · exact ⟨fun e => h.nw.1 (e ▸ q), fun e => h.nw.2.2 (e ▸ q), fun e => h.nw.2.1 (e ▸ q)⟩
/-- Behind giveBack. -/
theorem Ra.given {No : Nat → Prop} {w0 w W W' : World} {T A b a S hb c c' Ab bn an Fb : Nat} {t : TS} {q : Pa} {x y : Int} {s s' : H.St} (h : Ra No w0 w W T A b a S hb c Ab bn an Fb t q x y s) {v' : Value} (hp : H.Hp (N5 No T A b a Ab bn an Fb) W' S hb c' v' s') (k : Keep (N5 No T A b a Ab bn an Fb) W W') :
    Ra No w0 W' W' T A b a S hb c' Ab bn an Fb t q x y s' := by
  have nT : N5 No T A b a Ab bn an Fb T := .inl (.inr (.inl rfl))
  have nA : N5 No T A b a Ab bn an Fb A := .inl (.inr (.inr (.inl rfl)))
  have nb : N5 No T A b a Ab bn an Fb b := .inl (.inr (.inr (.inr (.inl rfl))))
  have na : N5 No T A b a Ab bn an Fb a := .inl (.inr (.inr (.inr (.inr rfl))))
  exact ⟨⟨h.fw.new.kept k (.inr (.inr (.inr (.inr rfl)))) (.inr (.inl rfl)) (.inr (.inr (.inl rfl))) (.inr (.inr (.inr (.inl rfl)))), h.fw.old.kept k nT nA nb na, Keep.refl _ _, h.fw.ti, h.fw.dT, h.fw.dA, h.fw.db, h.fw.da⟩, ⟨v', hp⟩, h.keep.trans (k.sub fun g q => .inl (.inl q)), h.tm.kept k nT nA nb na, h.nw, h.dF⟩
/-- The struct's cells, from the second to the sixth. -/
abbrev set5 (w : World) (T : Nat) (q1 q2 q3 q4 q5 : Value) : World := ((((w.setCell ⟨T, 1, none⟩ q1).setCell ⟨T, 2, none⟩ q2).setCell ⟨T, 3, none⟩ q3).setCell ⟨T, 4, none⟩ q4).setCell ⟨T, 5, none⟩ q5
theorem Ra.done {No : Nat → Prop} {w0 w W : World} {T A b a S hb c Ab bn an Fb : Nat} {t : TS} {q : Pa} {x y : Int} {s : H.St} (h : Ra No w0 w W T A b a S hb c Ab bn an Fb t q x y s) (nT : ¬ No T) (iv : H.Inv 0 s) (p0 : 0 ≤ t.pr) (p1 : t.pr ≤ (c : Int) * 65536) :
    TT No (set5 W T (.slice (some ⟨Ab, 0, none⟩) q.n q.n) (.pointer (some ⟨bn, 0, none⟩)) (.int .i64 x) (.int .i64 y) (.int .i64 0)) T Ab bn an S hb c { p := q, sb := x, nb := y, hint := 0, pr := t.pr } s ∧
    Keep No w0 (set5 W T (.slice (some ⟨Ab, 0, none⟩) q.n q.n) (.pointer (some ⟨bn, 0, none⟩)) (.int .i64 x) (.int .i64 y) (.int .i64 0)) := by
  have set : ∀ {K : Nat → Prop} (q1 q2 q3 q4 q5 : Value), ¬ K T → Keep K W (set5 W T q1 q2 q3 q4 q5) := fun q1 q2 q3 q4 q5 hK =>
    (((((Keep.refl _ W).set (p := ⟨T, 1, none⟩) hK _).set (p := ⟨T, 2, none⟩) hK _).set (p := ⟨T, 3, none⟩) hK _).set (p := ⟨T, 4, none⟩) hK _).set (p := ⟨T, 5, none⟩) hK _
  have kT := set (K := fun g => g ≠ T) (.slice (some ⟨Ab, 0, none⟩) q.n q.n) (.pointer (some ⟨bn, 0, none⟩)) (.int .i64 x) (.int .i64 y) (.int .i64 0) (fun q => q rfl)
  have kN := set (K := No) (.slice (some ⟨Ab, 0, none⟩) q.n q.n) (.pointer (some ⟨bn, 0, none⟩)) (.int .i64 x) (.int .i64 y) (.int .i64 0) nT
  have N := h.fw.new
  obtain ⟨v', hp⟩ := h.hp
  have inT : N5 No T A b a Ab bn an Fb T := .inl (.inr (.inl rfl))
  have hp1 := ((((hp.sets T 1 (.slice (some ⟨Ab, 0, none⟩) q.n q.n) inT).sets T 2 (.pointer (some ⟨bn, 0, none⟩)) inT).sets T 3 (.int .i64 x) inT).sets T 4 (.int .i64 y) inT).sets T 5 (.int .i64 0) inT
  have dT := h.fw.dT
  have ne : ∀ (i j : Nat) (W : World) (v : Value), i ≠ j → (W.setCell ⟨T, i, none⟩ v).cell? ⟨T, j, none⟩ = W.cell? ⟨T, j, none⟩ := fun i j W v hij => World.cell?_setCell_other _ _ _ _ (fun q => by injection q with _ q2; omega)
  have M := h.tm
  have m0 : W.cell? ⟨T, 1, none⟩ = _ := M.pm.c0
  have m1 : W.cell? ⟨T, 2, none⟩ = _ := M.pm.c1
  have m2 : W.cell? ⟨T, 3, none⟩ = _ := M.pm.c2
  have m3 : W.cell? ⟨T, 4, none⟩ = _ := M.pm.c3
  generalize h1 : Value.slice (some ⟨Ab, 0, none⟩) q.n q.n = v1 at *
  generalize h2 : Value.pointer (some ⟨bn, 0, none⟩) = v2 at *
  generalize h3 : Value.int .i64 x = v3 at *
  generalize h4 : Value.int .i64 y = v4 at *
  generalize h5 : Value.int .i64 0 = v5 at *
  have f1 : (set5 W T v1 v2 v3 v4 v5).cell? ⟨T, 1, none⟩ = some v1 := by rw [ne 5 1 _ _ (by omega), ne 4 1 _ _ (by omega), ne 3 1 _ _ (by omega), ne 2 1 _ _ (by omega)]; exact World.cell?_setCell_same _ _ _ m0
  have f2 : (set5 W T v1 v2 v3 v4 v5).cell? ⟨T, 2, none⟩ = some v2 := by rw [ne 5 2 _ _ (by omega), ne 4 2 _ _ (by omega), ne 3 2 _ _ (by omega)]; exact World.cell?_setCell_same _ _ _ (by rw [ne 1 2 _ _ (by omega)]; exact m1)
  have f3 : (set5 W T v1 v2 v3 v4 v5).cell? ⟨T, 3, none⟩ = some v3 := by rw [ne 5 3 _ _ (by omega), ne 4 3 _ _ (by omega)]; exact World.cell?_setCell_same _ _ _ (by rw [ne 2 3 _ _ (by omega), ne 1 3 _ _ (by omega)]; exact m2)
  have f4 : (set5 W T v1 v2 v3 v4 v5).cell? ⟨T, 4, none⟩ = some v4 := by rw [ne 5 4 _ _ (by omega)]; exact World.cell?_setCell_same _ _ _ (by rw [ne 3 4 _ _ (by omega), ne 2 4 _ _ (by omega), ne 1 4 _ _ (by omega)]; exact m3)
  have f5 : (set5 W T v1 v2 v3 v4 v5).cell? ⟨T, 5, none⟩ = some v5 := World.cell?_setCell_same _ _ _ (by rw [ne 4 5 _ _ (by omega), ne 3 5 _ _ (by omega), ne 2 5 _ _ (by omega), ne 1 5 _ _ (by omega)]; exact M.c5)
  have f0 : (set5 W T v1 v2 v3 v4 v5).cell? ⟨T, 0, none⟩ = some (.pointer (some ⟨S, 0, none⟩)) := by rw [ne 5 0 _ _ (by omega), ne 4 0 _ _ (by omega), ne 3 0 _ _ (by omega), ne 2 0 _ _ (by omega), ne 1 0 _ _ (by omega)]; exact M.c0
  have f6 : (set5 W T v1 v2 v3 v4 v5).cell? ⟨T, 6, none⟩ = some (.int .i64 t.pr) := by rw [ne 5 6 _ _ (by omega), ne 4 6 _ _ (by omega), ne 3 6 _ _ (by omega), ne 2 6 _ _ (by omega), ne 1 6 _ _ (by omega)]; exact M.c6
  have ff : ∀ j, (set5 W T v1 v2 v3 v4 v5).frozen? ⟨T, j, none⟩ = false := fun j => by
    simp only [World.frozen?_setCell]; exact M.fz j
  have hp2 : H.Hp (N5 No T A b a Ab bn an Fb) (set5 W T v1 v2 v3 v4 v5) S hb c v' s := hp1
  clear hp1
  generalize set5 W T v1 v2 v3 v4 v5 = W7 at *
  subst h1 h2 h3 h4 h5
  have eA := kT.block Ab N.ltA (fun e => dT.1 e.symm)
  have pm : Pm W7 T 1 Ab bn an q x y := ⟨f1, f2, f3, f4, N.sl.block eA, fun j => by rw [World.frozen?_of_block (w := W) eA]; exact N.fA j, Nat.lt_of_lt_of_le N.ltA kT.size, Nat.lt_of_lt_of_le M.pm.ltB kT.size, N.pt.kept kT (fun e => dT.2.2 e.symm) (fun e => dT.2.1 e.symm), fun e => dT.1 e.symm, N.nAb, N.nAa, dT.2.2, dT.2.1⟩
  refine ⟨⟨⟨pm, f0, f5, f6, ff⟩, ⟨v', Hp.sub hp2 (fun g q => ?_)⟩, nT, h.nw.1, h.nw.2.1, h.nw.2.2, h.fw.ti, iv, p0, p1⟩, h.keep.trans kN⟩
  rcases q with q | q | q | q | q
  · exact .inl (.inl q)
  · exact .inl (.inr (.inl q))
  · exact .inr (.inl q)
  · exact .inr (.inr (.inl q))
  · exact .inr (.inr (.inr (.inl q)))

set_option maxRecDepth 20000 in
set_option maxHeartbeats 4000000 in
theorem reh_any {No : Nat → Prop} {w : World} {T A b a S hb c : Nat} {t : TS} {s : H.St} (h : TT No w T A b a S hb c t s) (hc : c ≤ 800000) (k : V) (ha : Ask t.p k) :
    Calls Tryz.prog 69 #[.pointer (some ⟨T, 0, none⟩), vv k] w fun e w' => e = .returned (.int .i64 (reh t s k).2.2) ∧ (∃ A' b' a', TT No w' T A' b' a' S hb (c + 6) (reh t s k).1 (reh t s k).2.1) ∧ Keep No w w' := by
  have X := Bx.made w k
  have B0 := b1 w (vb k.1 k.2.1 k.2.2)
  obtain ⟨W0, hW0⟩ : ∃ W0, w.alloc (vb k.1 k.2.1 k.2.2) = W0 := ⟨_, rfl⟩
  rw [hW0] at X B0
  have C1 := h.sz ha W0.drew (bthen B0 B0.size (bdrew1 _))
  have HCE : Hid _ := cens ha.ok ha.nd
  have x0 := X.c0
  have x1 := X.c1
  have x2 := X.c2
  unfold vb at hW0
  unfold vv vl at *
  obtain ⟨R, hR⟩ : ∃ R, reh t s k = R := ⟨_, rfl⟩
  have HR : Hid (reh t s k = R) := hR
  rw [hR]
  clear X hR B0 ha
  have HTT : Hid (TT No w T A b a S hb c t s) := h
  clear h
  generalize hrA : C.szA (ints (pres t.p ++ [k])) (oth (pres t.p ++ [k]) : Nat) = rA at *
  generalize hrZ : C.szH (ints (pres t.p ++ [k])) (oth (pres t.p ++ [k]) : Nat) = rZ at *
  have HRA : Hid _ := hrA
  have HRZ : Hid _ := hrZ
  clear hrA hrZ
  obtain ⟨E, hE⟩ : ∃ E, rsE t.p k = E := ⟨_, rfl⟩
  have HE : Hid (rsE t.p k = E) := hE
  rw [hE] at C1 HCE
  clear hE
  go_enter Tryz.func69, Tryz.ntmps69
  go_wp2_with fail
  go_cut [5, 6, 7] from 9 to 18 (fun av zv ev wx => av = .int .i64 rA ∧ zv = .int .i64 rZ ∧ ev = .int .i64 E ∧ Hid (TT No wx T A b a S hb c t s ∧ Below w.heap.size w wx))
  case first =>
    go_region_with (go_at_call 105; refine C1.mono ?_; rintro e w3 ⟨rfl, h3, b3⟩; have HX : Hid (TT No w3 T A b a S hb c t s ∧ Below w.heap.size w w3) := ⟨h3, b3⟩; clear h3 b3)
    all_goals
      go_wp2_with fail
      go_meet
      exact ⟨rfl, rfl, rfl, HX⟩
  case rest =>
    obtain ⟨rfl, rfl, rfl, HX⟩ := hcut
    clear C1
    by_cases he : E = 0
    · subst he
      obtain ⟨_, HFt, eA, eZ⟩ := HCE.out.resolve_left (by decide)
      subst eA eZ
      have HFits : Hid (Fits (pres t.p ++ [k]) (rsA t.p k) (rsZ t.p k)) := HFt
      have hz1 := HFt.z.le
      have hz2 := HFt.a
      clear HFt HCE HRA HRZ
      have c0 := HX.out.1.tm.c0
      by_cases hq : tpE s (rsA t.p k) (rsZ t.p k) = 0
      · have he1 : H.takeE s (rsA t.p k : Nat) = 0 := by
          unfold tpE at hq
          by_cases q : H.takeE s (rsA t.p k : Nat) = 0
          · exact q
          · rw [if_pos q] at hq; exact hq
        have he2 : H.takeE (H.takeSt s (rsA t.p k : Nat)) (3 * (rsZ t.p k : Nat)) = 0 := by unfold tpE at hq; rwa [if_neg (by simpa using he1)] at hq
        have HRe : Hid (reh t s k = ({ p := fill t.p (fresh (rsA t.p k) (rsZ t.p k)), sb := H.takeId s (rsA t.p k : Nat), nb := H.takeId (H.takeSt s (rsA t.p k : Nat)) (3 * (rsZ t.p k : Nat)), hint := 0, pr := t.pr },
            H.giveSt (H.giveSt (H.takeSt (H.takeSt s (rsA t.p k : Nat)) (3 * (rsZ t.p k : Nat))) t.sb) t.nb, 0)) := by
          show _ = _; unfold reh; rw [HE.out, if_neg (by simp), if_neg (by simpa using hq)]; unfold tpS; rw [if_neg (by simpa using he1), if_neg (by simpa using he2)]
        obtain ⟨vb0, hp0⟩ := HX.out.1.hp
        have C2 := tp_good hp0 (by omega) HX.out.1.iv (rsA t.p k) (rsZ t.p k) hz2 HFits.out.z he1 he2
        have HIv : Hid (H.Inv 0 (H.takeSt (H.takeSt s (rsA t.p k : Nat)) (3 * (rsZ t.p k : Nat)))) := (HX.out.1.iv.take _).take _
        have HRt : Hid (Rt (rsZ t.p k)) := HFits.out.z
        generalize H.takeId s (rsA t.p k : Nat) = i1 at *
        generalize H.takeId (H.takeSt s (rsA t.p k : Nat)) (3 * (rsZ t.p k : Nat)) = i2 at *
        generalize H.takeSt (H.takeSt s (rsA t.p k : Nat)) (3 * (rsZ t.p k : Nat)) = s3 at *
        clear he1 he2 hq hp0 HFits
        generalize rsA t.p k = n1 at *
        generalize rsZ t.p k = z1 at *
        unfold pv at C2
        go_wp2_with fail
        refine C2.mono ?_; rintro e W3 ⟨Ab, bn, an, rfl, k3⟩
        obtain ⟨ra, hobj⟩ := HX.out.1.ra k3 i1 i2 hz2 HRt.out
        have CF := fill_any _ ra.fw hobj HX.out.1.ti
        have HRa : Hid _ := ra
        clear C2 k3 ra hobj
        go_wp2_with fail
        refine CF.mono ?_; rintro e W5 ⟨rfl, f5⟩
        have ra5 := HRa.out.filled (f5.below (bdrew1 W5))
        obtain ⟨v5, hp5⟩ := ra5.hp
        have CG := give_back hp5 (by omega) HIv.out ra5.fw.old (.inl (.inr (.inl rfl)))
        have d0 : W5.cell? ⟨T, 0, none⟩ = some (.pointer (some ⟨S, 0, none⟩)) := ra5.tm.c0
        have HRa5 : Hid _ := ra5
        clear CF f5 hp5 ra5 HRa
        go_wp2_with fail
        refine wp_tail 7 (by kernel_rfl) (by kernel_rfl) ?_
        simp only [List.take_succ_cons, List.take_zero, List.drop_succ_cons, List.drop_zero]
        repeat still_step
        refine wpStill_nil ?_
        go_wp2_with fail
        refine CG.mono ?_; rintro e W6 ⟨rfl, ⟨v6, hp6⟩, k6⟩
        have ra6 := HRa5.out.given hp6 k6
        have HD : Hid _ := ra6.done HX.out.1.nT ((HIv.out.give _).give _) HX.out.1.p0 (by have := HX.out.1.p1; omega)
        have e0 : W6.cell? ⟨W3.heap.size, 0, none⟩ = some (.slice (some ⟨Ab, 0, none⟩) (fill t.p (fresh n1 z1)).n (fill t.p (fresh n1 z1)).n) := ra6.fw.new.c0
        have e1 : W6.cell? ⟨W3.heap.size, 1, none⟩ = some (.pointer (some ⟨bn, 0, none⟩)) := ra6.fw.new.c1
        have e2 : W6.cell? ⟨W3.heap.size, 2, none⟩ = some (.int .i64 i1) := ra6.fw.new.c2
        have e3 : W6.cell? ⟨W3.heap.size, 3, none⟩ = some (.int .i64 i2) := ra6.fw.new.c3
        have fT := ra6.tm.fz
        have t1 : W6.cell? ⟨T, 1, none⟩ = some (.slice (some ⟨A, 0, none⟩) t.p.n t.p.n) := ra6.tm.pm.c0
        have t2 : W6.cell? ⟨T, 2, none⟩ = some (.pointer (some ⟨b, 0, none⟩)) := ra6.tm.pm.c1
        have t3 : W6.cell? ⟨T, 3, none⟩ = some (.int .i64 t.sb) := ra6.tm.pm.c2
        have t4 : W6.cell? ⟨T, 4, none⟩ = some (.int .i64 t.nb) := ra6.tm.pm.c3
        have t5 := ra6.tm.c5
        have HdF : Hid (T ≠ W3.heap.size) := ra6.dF
        obtain ⟨W7, hW7⟩ : ∃ W7, set5 W6 T (.slice (some ⟨Ab, 0, none⟩) (fill t.p (fresh n1 z1)).n (fill t.p (fresh n1 z1)).n) (.pointer (some ⟨bn, 0, none⟩)) (.int .i64 i1) (.int .i64 i2) (.int .i64 0) = W7 := ⟨_, rfl⟩
        rw [hW7] at HD
        unfold set5 at hW7
        clear CG hp6 k6 ra6 d0 HRa5
        generalize hfq : fill t.p (fresh n1 z1) = fq at *
        have HFQ : Hid (fill t.p (fresh n1 z1) = fq) := hfq
        clear hfq
        go_wp2_with fail
        go_ret
        rw [← HR.out, HRe.out]
        exact ⟨rfl, ⟨Ab, bn, an, HD.out.1.more (by omega)⟩, (Keep.of HX.out.2).trans HD.out.2⟩
      · have C2 := HX.out.1.tp_bad hc (rsA t.p k) (rsZ t.p k) hz1 hq wc (Below.refl _ _)
        have HRe : Hid (reh t s k = (t, tpS s (rsA t.p k) (rsZ t.p k), tpE s (rsA t.p k) (rsZ t.p k))) := by show _ = _; unfold reh; rw [HE.out, if_neg (by simp), if_pos hq]
        generalize tpE s (rsA t.p k) (rsZ t.p k) = E2 at *
        generalize tpS s (rsA t.p k) (rsZ t.p k) = s2 at *
        generalize rsA t.p k = n1 at *
        generalize rsZ t.p k = z1 at *
        have heb : (E2 != 0) = true := by simp [hq]
        unfold zp at C2
        go_wp2_with fail
        refine C2.mono ?_; rintro e W3 ⟨rfl, h3, k3⟩
        have H3 : Hid (TT No W3 T A b a S hb (c + 3) t s2 ∧ Keep No wc W3) := ⟨h3, k3⟩
        clear C2 h3 k3
        go_wp2_with fail
        go_ret
        rw [← HR.out, HRe.out]
        exact ⟨rfl, ⟨A, b, a, (H3.out.1.below (b1 _ _)).more (by omega)⟩, ((Keep.of HX.out.2).trans H3.out.2).bel (b1 _ _)⟩
    · have heb : (E != 0) = true := by simp [he]
      have HRe : Hid (reh t s k = (t, s, E)) := by show _ = _; unfold reh; rw [HE.out, if_pos he]
      go_wp2_with fail
      go_ret
      rw [← HR.out, HRe.out]
      exact ⟨rfl, ⟨A, b, a, HX.out.1.more (by omega)⟩, Keep.of HX.out.2⟩
end Go.Proofs.YtpmmploedkbeoaaGreatDoor

/- The pure part of a table, on: a store that finds no node; what is behind the rehash. -/
namespace Go.Proofs.YtpmmploedkbeoaaGreatDoor
open Go.RowKit

theorem put_12 {z : Nat} {g : G} {k v : V} (hi : Inv z (pl z) KOK g) (hz : Rt z) (hk : KOK k) (he : (put z g k v).2.2 = 12) :
    fm v = true ∧ v.1 ≠ 0 ∧ (∀ i, i < z → g.K i ≠ k) ∧ (∀ i, i < z → g.K i ≠ nil) ∧ (put z g k v).1.K = g.K ∧ (put z g k v).1.X = g.X := by
  by_cases hf : fm k = true ∧ fm v = true
  · refine ⟨hf.2, ?_⟩
    by_cases hz0 : z = 0
    · have e : put z g k v = (g, 0, if v.1 = 0 then 0 else 12) := by rw [put, if_pos hf, if_neg hk.2.1, if_pos hz0]
      rw [e] at he ⊢
      by_cases q : v.1 = 0
      · simp only [if_pos q] at he; cases he
      · exact ⟨q, fun i hi => by omega, fun i hi => by omega, rfl, rfl⟩
    · have hz' := hz.resolve_left hz0
      rw [put, if_pos hf, if_neg hk.2.1, if_neg hz0] at he ⊢
      cases hfi : find (pl z) g k with
      | mk o n =>
        rw [hfi] at he
        cases o with
        | some i => simp only at he; cases he
        | none =>
          have hnew := hi.find_none (fun k _ => pl_lt hz' k) hk.ne hfi
          simp only at he ⊢
          by_cases hv0 : v.1 = 0
          · rw [if_pos hv0] at he; cases he
          · rw [if_neg hv0] at he ⊢
            simp only at he ⊢
            refine ⟨hv0, hnew, ?_⟩
            unfold ins at he ⊢
            by_cases e1 : g.K (pl z k) = nil
            · rw [if_pos e1] at he; cases he
            · rw [if_neg e1] at he ⊢
              cases ht : tf g.K g.f with
              | none =>
                refine ⟨fun i hi2 => ?_, rfl, rfl⟩
                by_cases q : g.f ≤ i
                · exact hi.up i hi2 q
                · exact tf_none ht i (by omega)
              | some a =>
                rw [ht] at he
                simp only at he
                split at he <;> cases he
  · rw [put, if_neg hf] at he; cases he

/-- A store that finds no node. -/
theorem TI.full {p : Pa} (h : TI p) {k v : V} (hk : KOK k) (he : (pset p k v).2.2 = 12) :
    ¬ inA p.n k ∧ fm v = true ∧ v.1 ≠ 0 ∧ (∀ i, i < p.z → p.g.K i ≠ k) ∧ (∀ i, i < p.z → p.g.K i ≠ nil) ∧ pget p k = nil ∧ pres (pset p k v).1 = pres p ∧ Ask (pset p k v).1 k := by
  have hA : ¬ inA p.n k := fun hA => by unfold pset at he; rw [if_pos hA] at he; cases he
  have ep : pset p k v = ({ p with g := (put p.z p.g k v).1 }, (put p.z p.g k v).2.1, (put p.z p.g k v).2.2) := by unfold pset; rw [if_neg hA]
  have he' : (put p.z p.g k v).2.2 = 12 := by rw [ep] at he; exact he
  obtain ⟨h1, h2, h3, h4, h5, h6⟩ := put_12 h.inv h.rt hk he'
  have hg : pget p k = nil := by
    rcases h.get_out hk hA with ⟨i, hi, e, _⟩ | ⟨_, e⟩
    · exact absurd e (h3 i hi)
    · exact e
  have hH : ∀ n, kH (put p.z p.g k v).1 n = kH p.g n := fun n => by
    induction n with
    | zero => rfl
    | succ n ih => rw [kH, kH, ih, h5, h6]
  have hp : pres (pset p k v).1 = pres p := by rw [ep]; show kA p.F p.n ++ kH (put p.z p.g k v).1 p.z = _; rw [hH]; rfl
  have hn : k ∉ pres p := fun hm => by have := (h.mem_pres.1 hm).2; rw [hg] at this; exact this rfl
  refine ⟨hA, h1, h2, h3, h4, hg, hp, ⟨fun k' hk' => ?_, ?_⟩⟩
  · rw [hp] at hk'
    rcases List.mem_append.1 hk' with q | q
    · exact (h.mem_pres.1 q).1
    · rw [List.mem_singleton.1 q]; exact hk
  · rw [hp, List.nodup_append]
    refine ⟨h.pres_nd, by simp, fun a ha b hb e => ?_⟩
    rw [List.mem_singleton] at hb
    exact hn (by rw [← hb, ← e]; exact ha)
/-- What is behind a rehash that succeeds. -/
theorem TI.behind {p : Pa} (h : TI p) {k v : V} (hk : KOK k) (hv : fm v = true) (hv0 : v.1 ≠ 0) (hA : ¬ inA p.n k) (hnew : ∀ i, i < p.z → p.g.K i ≠ k) (ha : Ask p k) (he : rsE p k = 0) :
    Fits (pres p ++ [k]) (rsA p k) (rsZ p k) ∧ TI (fill p (fresh (rsA p k) (rsZ p k))) ∧ (fill p (fresh (rsA p k) (rsZ p k))).n = rsA p k ∧ (fill p (fresh (rsA p k) (rsZ p k))).z = rsZ p k ∧
    (∀ k', KOK k' → pget (fill p (fresh (rsA p k) (rsZ p k))) k' = pget p k') ∧ (pset (fill p (fresh (rsA p k) (rsZ p k))) k v).2.2 = 0 := by
  obtain ⟨_, F, _, _⟩ := (cens ha.ok ha.nd).resolve_left (by rw [he]; decide)
  have hroom : outK (rsA p k) (pres p) ≤ rsZ p k := by have := F.room; rw [outK_app] at this; omega
  obtain ⟨i1, i2, i3, i4, i5, i6⟩ := h.filled F.a F.z hroom
  refine ⟨F, i1, i2, i3, i4, ?_⟩
  unfold pset
  by_cases hA' : inA (fill p (fresh (rsA p k) (rsZ p k))).n k
  · rw [if_pos hA']
  · rw [if_neg hA']
    show (put _ _ k v).2.2 = 0
    rw [i3]
    have ho : outK (rsA p k) [k] = 1 := by rw [i2] at hA'; simp [outK, hA']
    have hr2 := F.room
    rw [outK_app, ho] at hr2
    have hz := F.z.resolve_left (show rsZ p k ≠ 0 by omega)
    have hnot : k ∉ pres p := fun hm => by
      have := (h.mem_pres.1 hm).2
      rcases h.get_out hk hA with ⟨i, hi, e, _⟩ | ⟨_, e⟩
      · exact hnew i hi e
      · rw [e] at this; exact this rfl
    have inv' : Inv (rsZ p k) (pl (rsZ p k)) KOK (fill p (fresh (rsA p k) (rsZ p k))).g := by have := i1.inv; rwa [i3] at this
    refine (put_new inv' hz hk hv hv0 (fun i hi e => ?_) (by omega)).1
    rcases i6 i hi with q | q
    · exact hk.ne (by rw [← e, q])
    · exact hnot (by rw [← e]; exact q)
end Go.Proofs.YtpmmploedkbeoaaGreatDoor

/- Index of a table. -/
import Derived.Test.YtpmmploedkbeoaaGreatDoorCg16
import Derived.Deep.RegionHeld3
namespace Go.Proofs.YtpmmploedkbeoaaGreatDoor
open Go.RowKit

theorem kn_tab : kn1 ((1 : Nat) : Int) (4, 1, ⟨#[]⟩) = true := by kernel_rfl
set_option maxRecDepth 20000 in
set_option maxHeartbeats 4000000 in
theorem ask_index {No : Nat → Prop} {w : World} {M S hb c : Nat} {t : TS} {s : H.St} (h : Mt No w M S hb c t s) (hc : c ≤ 700000) {a : Option Addr} {cp : Nat} {F : Nat → V} (hv : Vin w a 2 F) (hva : ∀ g off, a = some ⟨g, off, none⟩ → No g) (hcp : 2 ≤ cp) (h0 : F 0 = (4, 1, ⟨#[]⟩)) (hr : Rng (F 1)) (nm : ByteArray) (p q : Int) :
    Calls Tryz.prog 22 #[.pointer (some ⟨M, 0, none⟩), .agg #[.int .i64 8, .string nm, .slice a 2 cp, .int .i64 p, .int .i64 q]] w (AskP No w M S hb (c + 1) (if kn1 1 (F 1) then { t with pr := t.pr + (prd t.p (F 1) : Nat) } else t) s (if kn1 1 (F 1) then [pget t.p (F 1)] else []) (if kn1 1 (F 1) then 0 else 2)) := by
  obtain ⟨G, cpG, T, A, b, aT, mc, hG, tt, nM, nG⟩ := h.ex
  obtain ⟨B0, O0, R0⟩ := entry2 w 8 nm (.slice a 2 cp) p q
  obtain ⟨W0, hW0⟩ : ∃ W0, (w.alloc (.cells #[.int .i64 8, .string nm, .slice a 2 cp, .int .i64 p, .int .i64 q] 48)).alloc (.cells #[.slice none 0 0, .int .i64 0, .int .i64 0, .slice none 0 0, .slice none 0 0, .int .i64 0, .int .i64 0, .int .i64 0, .int .i64 0, .int .i64 0, .int .i64 0] 35) = W0 := ⟨_, rfl⟩
  rw [hW0] at B0 O0 R0
  have CH := handed_any (mc.below B0) (hv.below B0) hcp 8 p q nm rfl (by omega) (by omega) (by rw [h0])
  have o0 := O0.c0
  have o1 := O0.c1
  have o2 := O0.c2
  have o3 := O0.c3
  have o4 := O0.c4
  have huk : unk ((1 : Nat) : Int) F 2 = !kn1 1 (F 1) := by
    rw [unk, unk, unk, h0, kn_tab]; rfl
  rw [huk] at CH
  have HT0 : Hid (TT (fun g => No g ∨ (w.heap.size ≤ g ∧ g < W0.heap.size)) W0 T A b aT S hb c t s) := tt.news B0
  have HN : Hid (∀ g, No g → g < w.heap.size) := fun g q => tt.nos q
  have HM : Hid (Mc w M S (.slice (some ⟨G, 0, none⟩) 1 cpG) ∧ w.cell? ⟨G, 0, none⟩ = some (.pointer (some ⟨T, 0, none⟩)) ∧ No M ∧ No G ∧ G < w.heap.size) := ⟨mc, hG, nM, nG, tt.nos nG⟩
  have HR0 : Hid (R11 W0 (w.heap.size + 1) (.slice none 0 0) 0) := R0
  have HB0 : Hid (Below w.heap.size w W0) := B0
  have HV : Hid (Vin W0 a 2 F ∧ ∀ g off, a = some ⟨g, off, none⟩ → No g) := ⟨hv.below B0, hva⟩
  clear h mc hG tt nM nG B0 O0 R0 hv hva huk
  cases hk : kn1 1 (F 1)
  · rw [hk] at CH
    simp only [Bool.not_false, if_true, if_false, Bool.false_eq_true] at CH ⊢
    clear hk
    go_enter Tryz.func22, Tryz.ntmps22
    go_wp2_with fail
    refine CH.mono ?_; rintro e w1 ⟨rfl, hb1⟩
    have rU := HR0.out.below hb1
    have HB1 : Hid (Below w.heap.size w w1) := bthen HB0.out HB0.out.size hb1
    have HT1 : Hid (TT (fun g => No g ∨ (w.heap.size ≤ g ∧ g < W0.heap.size)) w1 T A b aT S hb c t s) := HT0.out.below hb1
    have rS := rU.set (.slice none 0 0) 2
    obtain ⟨U1, U2, U3, U4, U5, U6, U7, U8, U9, U10, U11, ⟨f0, n0⟩, ⟨s0, f1, n1⟩, ⟨s1, f2, n2⟩, ⟨s2, f3, n3⟩, ⟨s3, f4, n4⟩, ⟨s4, f5, n5⟩, ⟨s5, f6, n6⟩, ⟨s6, f7, n7⟩, ⟨s7, f8, n8⟩, ⟨s8, f9, n9⟩, ⟨s9, f10, n10⟩, s10, se⟩ := rU.steps (.slice none 0 0) 2
    have HE : Hid (R11 U11 (w.heap.size + 1) (.slice none 0 0) 2 ∧ TT (fun g => No g ∨ (w.heap.size ≤ g ∧ g < W0.heap.size)) U11 T A b aT S hb c t s ∧ Keep No w U11) := by
      rw [← se]
      exact ⟨rS, HT1.out.set11 (.inr ⟨by omega, HR0.out.lt⟩) _ _, keep_set11 (Keep.of HB1.out) (fun q => by have := HN.out _ q; omega) _ _⟩
    clear CH hb1 rU rS se
    go_wp2_with fail
    have r0 := HE.out.1.c0
    have r1 := HE.out.1.c1
    have r2 := HE.out.1.c2
    have r3 := HE.out.1.c3
    have r4 := HE.out.1.c4
    have r5 := HE.out.1.c5
    have r6 := HE.out.1.c6
    have r7 := HE.out.1.c7
    have r8 := HE.out.1.c8
    have r9 := HE.out.1.c9
    have r10 := HE.out.1.c10
    exact bodyPost_ret (v := rp (.slice none 0 0) 2) (by simp [results, Tryz.results22, go_sem, r0, r1, r2, r3, r4, r5, r6, r7, r8, r9, r10]) rfl ⟨⟨none, 0, 0, rfl, Rq.nil _ _, No, ⟨G, cpG, T, A, b, aT, HM.out.1.kept HE.out.2.2 HM.out.2.2.1, by rw [World.cell?_of_block (w := w) (HE.out.2.2.block G HM.out.2.2.2.2 HM.out.2.2.2.1)]; exact HM.out.2.1, (HE.out.2.1.sub (fun g q => .inl q)).more (by omega), HM.out.2.2.1, HM.out.2.2.2.1⟩, fun g q => q, fun q => absurd rfl q⟩, HE.out.2.2⟩
  · rw [hk] at CH
    simp only [Bool.not_true, if_true, if_false, Bool.false_eq_true] at CH ⊢
    clear hk
    go_enter Tryz.func22, Tryz.ntmps22
    go_wp2_with fail
    refine CH.mono ?_; rintro e w1 ⟨rfl, hb1⟩
    have HB1 : Hid (Below w.heap.size w w1) := bthen HB0.out HB0.out.size hb1
    have HT1 : Hid (TT (fun g => No g ∨ (w.heap.size ≤ g ∧ g < W0.heap.size)) w1 T A b aT S hb c t s) := HT0.out.below hb1
    have HR1 : Hid (R11 w1 (w.heap.size + 1) (.slice none 0 0) 0) := HR0.out.below hb1
    obtain ⟨lb, off, rfl, hlb, u0, u1, u2⟩ := (HV.out.1.below hb1).at' 0 (by omega)
    have HVk : Hid (∀ W, Keep (fun g => No g ∨ (w.heap.size ≤ g ∧ g < W0.heap.size)) w1 W → W.cell? ⟨lb, off + 3, none⟩ = some (.int .i64 (F 1).1) ∧ W.cell? ⟨lb, off + 3 + 1, none⟩ = some (.int .i64 (F 1).2.1) ∧ W.cell? ⟨lb, off + 3 + 2, none⟩ = some (.string (F 1).2.2)) := fun W k => by
      obtain ⟨lb2, off2, e2, hl2, v0, v1, v2⟩ := ((HV.out.1.below hb1).keep k (fun g o q => .inl (HV.out.2 g o q))).at' 1 (by omega)
      cases e2
      exact ⟨v0, v1, v2⟩
    rw [h0, Nat.zero_mul, Nat.add_zero] at u0 u1
    have hb1s := HB0.out.size
    have o0' := (hb1.cell (p := ⟨w.heap.size, 0, none⟩) (show w.heap.size < W0.heap.size by have := HR0.out.lt; omega)).trans o0
    have CT := table_any (HM.out.1.below HB1.out) ((HB1.out.cell (p := ⟨G, 0, none⟩) HM.out.2.2.2.2).trans HM.out.2.1)
    obtain ⟨v0, v1, v2⟩ := HVk.out w1 (Keep.refl _ _)
    have CG := tget_any HT1.out (by omega) (F 1) hr
    unfold vv vl tp at CG
    obtain ⟨y, hy⟩ : ∃ y, pget t.p (F 1) = y := ⟨_, rfl⟩
    rw [hy] at CG
    have HY : Hid (pget t.p (F 1) = y) := hy
    clear CH hb1 hlb u2 o0 o1 o2 o3 o4 hW0 hy
    go_wp2_with fail
    refine CT.mono ?_; rintro e w2 ⟨rfl, hw2⟩; rw [hw2]; clear hw2 CT
    go_wp2_with fail
    refine CG.mono ?_; rintro e w3 ⟨rfl, t3, k3⟩
    have C35 := answer_ok (some ⟨w3.heap.size, 0, none⟩) 1 1 (w3.alloc (.cells #[.int .i64 y.1, .int .i64 y.2.1, .string y.2.2] 37))
    have HT3 : Hid (TT (fun g => No g ∨ (w.heap.size ≤ g ∧ g < W0.heap.size)) w3 T A b aT S hb (c + 1) { t with pr := t.pr + (prd t.p (F 1) : Nat) } s ∧ Keep No w w3 ∧ R11 w3 (w.heap.size + 1) (.slice none 0 0) 0) := ⟨t3, (Keep.of HB1.out).trans (k3.sub (fun g q => .inl q)), HR1.out.kept k3 (.inr ⟨by omega, HR0.out.lt⟩)⟩
    clear CG t3 k3 u0 u1 v0 v1 v2 o0'
    go_wp2_with fail
    refine C35.mono ?_; rintro e U ⟨rfl, hu⟩
    have hk := bthen (b1 w3 (.cells #[.int .i64 y.1, .int .i64 y.2.1, .string y.2.2] 37)) (b1 w3 (.cells #[.int .i64 y.1, .int .i64 y.2.1, .string y.2.2] 37)).size hu
    have rU := HT3.out.2.2.below hk
    have tU := HT3.out.1.news hk
    have kU : Keep No w U := HT3.out.2.1.bel hk
    have qU := (rq1 w3 y).below hu
    have rS := rU.set (.slice (some ⟨w3.heap.size, 0, none⟩) 1 1) 0
    have qS := rq_set11 (N := w.heap.size + 1) qU (by have := HT3.out.2.2.lt; exact this) (.slice (some ⟨w3.heap.size, 0, none⟩) 1 1) 0
    obtain ⟨U1, U2, U3, U4, U5, U6, U7, U8, U9, U10, U11, ⟨f0, n0⟩, ⟨s0, f1, n1⟩, ⟨s1, f2, n2⟩, ⟨s2, f3, n3⟩, ⟨s3, f4, n4⟩, ⟨s4, f5, n5⟩, ⟨s5, f6, n6⟩, ⟨s6, f7, n7⟩, ⟨s7, f8, n8⟩, ⟨s8, f9, n9⟩, ⟨s9, f10, n10⟩, s10, se⟩ := rU.steps (.slice (some ⟨w3.heap.size, 0, none⟩) 1 1) 0
    have HE : Hid (R11 U11 (w.heap.size + 1) (.slice (some ⟨w3.heap.size, 0, none⟩) 1 1) 0 ∧ TT (fun g => (No g ∨ (w.heap.size ≤ g ∧ g < W0.heap.size)) ∨ (w3.heap.size ≤ g ∧ g < U.heap.size)) U11 T A b aT S hb (c + 1) { t with pr := t.pr + (prd t.p (F 1) : Nat) } s ∧ Keep No w U11 ∧ Rq U11 w.heap.size (.slice (some ⟨w3.heap.size, 0, none⟩) 1 1) [y] ∧ w3.heap.size < U.heap.size) := by
      rw [← se]
      exact ⟨rS, tU.set11 (.inl (.inr ⟨by omega, HR0.out.lt⟩)) _ _, keep_set11 kU (fun q => by have := HN.out _ q; omega) _ _, qS.low (by have := HT3.out.2.2.lt; omega), Nat.lt_of_lt_of_le (by simp) hu.size⟩
    clear C35 hu hk rU tU kU qU rS qS se
    go_wp2_with fail
    have r0 := HE.out.1.c0
    have r1 := HE.out.1.c1
    have r2 := HE.out.1.c2
    have r3 := HE.out.1.c3
    have r4 := HE.out.1.c4
    have r5 := HE.out.1.c5
    have r6 := HE.out.1.c6
    have r7 := HE.out.1.c7
    have r8 := HE.out.1.c8
    have r9 := HE.out.1.c9
    have r10 := HE.out.1.c10
    exact bodyPost_ret (v := rp (.slice (some ⟨w3.heap.size, 0, none⟩) 1 1) 0) (by simp [results, Tryz.results22, go_sem, r0, r1, r2, r3, r4, r5, r6, r7, r8, r9, r10]) rfl ⟨⟨_, _, _, rfl, by rw [HY.out]; exact HE.out.2.2.2.1, _, ⟨G, cpG, T, A, b, aT, HM.out.1.kept HE.out.2.2.1 HM.out.2.2.1, by rw [World.cell?_of_block (w := w) (HE.out.2.2.1.block G HM.out.2.2.2.2 HM.out.2.2.2.1)]; exact HM.out.2.1, HE.out.2.1, .inl (.inl HM.out.2.2.1), .inl (.inl HM.out.2.2.2.1)⟩, fun g q => .inl (.inl q), fun _ g off q => by cases q; exact .inr ⟨Nat.le_refl _, HE.out.2.2.2.2⟩⟩, HE.out.2.2.1⟩
end Go.Proofs.YtpmmploedkbeoaaGreatDoor

/- Store into a table. -/
namespace Go.Proofs.YtpmmploedkbeoaaGreatDoor
open Go.RowKit

theorem answer_nil (e : Int) (w : World) : Calls Tryz.prog 35 #[.int .i64 e, .slice none 0 0] w fun en w' => en = .returned (rp (.slice none 0 0) e) ∧ Below w.heap.size w w' := by
  by_cases h : e = 0
  · subst h; exact answer_ok none 0 0 w
  · exact answer_bad e h none 0 0 w
set_option maxRecDepth 20000 in
set_option maxHeartbeats 4000000 in
theorem ask_store {No : Nat → Prop} {w : World} {M S hb c : Nat} {t : TS} {s : H.St} (h : Mt No w M S hb c t s) (hc : c ≤ 700000) {a : Option Addr} {cp : Nat} {F : Nat → V} (hv : Vin w a 3 F) (hva : ∀ g off, a = some ⟨g, off, none⟩ → No g) (hcp : 3 ≤ cp) (h0 : F 0 = (4, 1, ⟨#[]⟩)) (hr : Rng (F 1)) (nm : ByteArray) (p q : Int) :
    Calls Tryz.prog 22 #[.pointer (some ⟨M, 0, none⟩), .agg #[.int .i64 9, .string nm, .slice a 3 cp, .int .i64 p, .int .i64 q]] w (AskP No w M S hb (c + 7) (if kn1 1 (F 1) && kn1 1 (F 2) then (tset t s (F 1) (F 2)).1 else t) (if kn1 1 (F 1) && kn1 1 (F 2) then (tset t s (F 1) (F 2)).2.1 else s) [] (if kn1 1 (F 1) && kn1 1 (F 2) then (tset t s (F 1) (F 2)).2.2 else 2)) := by
  obtain ⟨G, cpG, T, A, b, aT, mc, hG, tt, nM, nG⟩ := h.ex
  obtain ⟨B0, O0, R0⟩ := entry2 w 9 nm (.slice a 3 cp) p q
  obtain ⟨W0, hW0⟩ : ∃ W0, (w.alloc (.cells #[.int .i64 9, .string nm, .slice a 3 cp, .int .i64 p, .int .i64 q] 48)).alloc (.cells #[.slice none 0 0, .int .i64 0, .int .i64 0, .slice none 0 0, .slice none 0 0, .int .i64 0, .int .i64 0, .int .i64 0, .int .i64 0, .int .i64 0, .int .i64 0] 35) = W0 := ⟨_, rfl⟩
  rw [hW0] at B0 O0 R0
  have CH := handed_any (mc.below B0) (hv.below B0) hcp 9 p q nm rfl (by omega) (by omega) (by rw [h0])
  have o0 := O0.c0
  have o1 := O0.c1
  have o2 := O0.c2
  have o3 := O0.c3
  have o4 := O0.c4
  have huk : unk ((1 : Nat) : Int) F 3 = !(kn1 1 (F 1) && kn1 1 (F 2)) := by
    rw [unk, unk, unk, unk, h0, kn_tab]
    show (false || !true || !kn1 1 (F 1) || !kn1 1 (F 2)) = _
    cases kn1 1 (F 1) <;> cases kn1 1 (F 2) <;> rfl
  rw [huk] at CH
  have HT0 : Hid (TT (fun g => No g ∨ (w.heap.size ≤ g ∧ g < W0.heap.size)) W0 T A b aT S hb c t s) := tt.news B0
  have HN : Hid (∀ g, No g → g < w.heap.size) := fun g q => tt.nos q
  have HM : Hid (Mc w M S (.slice (some ⟨G, 0, none⟩) 1 cpG) ∧ w.cell? ⟨G, 0, none⟩ = some (.pointer (some ⟨T, 0, none⟩)) ∧ No M ∧ No G ∧ G < w.heap.size) := ⟨mc, hG, nM, nG, tt.nos nG⟩
  have HR0 : Hid (R11 W0 (w.heap.size + 1) (.slice none 0 0) 0) := R0
  have HB0 : Hid (Below w.heap.size w W0) := B0
  have HV0 : Hid (Vin w a 3 F) := hv
  have HV : Hid (Vin W0 a 3 F ∧ ∀ g off, a = some ⟨g, off, none⟩ → No g) := ⟨hv.below B0, hva⟩
  clear h mc hG tt nM nG B0 O0 R0 hv hva huk
  cases hk : (kn1 1 (F 1) && kn1 1 (F 2))
  · rw [hk] at CH
    simp only [Bool.not_false, if_true, if_false, Bool.false_eq_true] at CH ⊢
    clear hk
    go_enter Tryz.func22, Tryz.ntmps22
    go_wp2_with fail
    refine CH.mono ?_; rintro e w1 ⟨rfl, hb1⟩
    have rU := HR0.out.below hb1
    have HB1 : Hid (Below w.heap.size w w1) := bthen HB0.out HB0.out.size hb1
    have HT1 : Hid (TT (fun g => No g ∨ (w.heap.size ≤ g ∧ g < W0.heap.size)) w1 T A b aT S hb c t s) := HT0.out.below hb1
    have rS := rU.set (.slice none 0 0) 2
    obtain ⟨U1, U2, U3, U4, U5, U6, U7, U8, U9, U10, U11, ⟨f0, n0⟩, ⟨s0, f1, n1⟩, ⟨s1, f2, n2⟩, ⟨s2, f3, n3⟩, ⟨s3, f4, n4⟩, ⟨s4, f5, n5⟩, ⟨s5, f6, n6⟩, ⟨s6, f7, n7⟩, ⟨s7, f8, n8⟩, ⟨s8, f9, n9⟩, ⟨s9, f10, n10⟩, s10, se⟩ := rU.steps (.slice none 0 0) 2
    have HE : Hid (R11 U11 (w.heap.size + 1) (.slice none 0 0) 2 ∧ TT (fun g => No g ∨ (w.heap.size ≤ g ∧ g < W0.heap.size)) U11 T A b aT S hb c t s ∧ Keep No w U11) := by
      rw [← se]
      exact ⟨rS, HT1.out.set11 (.inr ⟨by omega, HR0.out.lt⟩) _ _, keep_set11 (Keep.of HB1.out) (fun q => by have := HN.out _ q; omega) _ _⟩
    clear CH hb1 rU rS se
    go_wp2_with fail
    have r0 := HE.out.1.c0
    have r1 := HE.out.1.c1
    have r2 := HE.out.1.c2
    have r3 := HE.out.1.c3
    have r4 := HE.out.1.c4
    have r5 := HE.out.1.c5
    have r6 := HE.out.1.c6
    have r7 := HE.out.1.c7
    have r8 := HE.out.1.c8
    have r9 := HE.out.1.c9
    have r10 := HE.out.1.c10
    exact bodyPost_ret (v := rp (.slice none 0 0) 2) (by simp [results, Tryz.results22, go_sem, r0, r1, r2, r3, r4, r5, r6, r7, r8, r9, r10]) rfl ⟨⟨none, 0, 0, rfl, Rq.nil _ _, No, ⟨G, cpG, T, A, b, aT, HM.out.1.kept HE.out.2.2 HM.out.2.2.1, by rw [World.cell?_of_block (w := w) (HE.out.2.2.block G HM.out.2.2.2.2 HM.out.2.2.2.1)]; exact HM.out.2.1, (HE.out.2.1.sub (fun g q => .inl q)).more (by omega), HM.out.2.2.1, HM.out.2.2.2.1⟩, fun g q => q, fun q => absurd rfl q⟩, HE.out.2.2⟩
  · rw [hk] at CH
    simp only [Bool.not_true, if_true, if_false, Bool.false_eq_true] at CH ⊢
    clear hk
    go_enter Tryz.func22, Tryz.ntmps22
    go_wp2_with fail
    refine CH.mono ?_; rintro e w1 ⟨rfl, hb1⟩
    have HB1 : Hid (Below w.heap.size w w1) := bthen HB0.out HB0.out.size hb1
    have HT1 : Hid (TT (fun g => No g ∨ (w.heap.size ≤ g ∧ g < W0.heap.size)) w1 T A b aT S hb c t s) := HT0.out.below hb1
    have HR1 : Hid (R11 w1 (w.heap.size + 1) (.slice none 0 0) 0) := HR0.out.below hb1
    obtain ⟨lb, off, rfl, hlb, u0, u1, u2⟩ := (HV.out.1.below hb1).at' 0 (by omega)
    have HS : Hid (∀ W, Keep No w W → W.cell? ⟨lb, off + 3, none⟩ = some (.int .i64 (F 1).1) ∧ W.cell? ⟨lb, off + 3 + 1, none⟩ = some (.int .i64 (F 1).2.1) ∧ W.cell? ⟨lb, off + 3 + 2, none⟩ = some (.string (F 1).2.2) ∧ W.cell? ⟨lb, off + 6, none⟩ = some (.int .i64 (F 2).1) ∧ W.cell? ⟨lb, off + 6 + 1, none⟩ = some (.int .i64 (F 2).2.1) ∧ W.cell? ⟨lb, off + 6 + 2, none⟩ = some (.string (F 2).2.2)) := fun W k => by
      have hh := HV0.out.keep k HV.out.2
      obtain ⟨lb2, off2, e2, hl2, v0, v1, v2⟩ := hh.at' 1 (by omega)
      obtain ⟨lb3, off3, e3, hl3, v3, v4, v5⟩ := hh.at' 2 (by omega)
      cases e2
      cases e3
      exact ⟨v0, v1, v2, v3, v4, v5⟩
    rw [h0, Nat.zero_mul, Nat.add_zero] at u0 u1
    have o0' := (hb1.cell (p := ⟨w.heap.size, 0, none⟩) (show w.heap.size < W0.heap.size by have := HR0.out.lt; omega)).trans o0
    have CT := table_any (HM.out.1.below HB1.out) ((HB1.out.cell (p := ⟨G, 0, none⟩) HM.out.2.2.2.2).trans HM.out.2.1)
    have HK1 : Hid (Keep No w w1.drew) := (Keep.of HB1.out).drew
    have CG := tset_any (HT1.out.below (bdrN w1 1) : TT _ w1.drew _ _ _ _ _ _ _ _ _) (by omega) (F 1) (F 2) hr
    unfold vv vl at CG
    obtain ⟨er, hy⟩ : ∃ er, (tset t s (F 1) (F 2)).2.2 = er := ⟨_, rfl⟩
    rw [hy] at CG
    have HY : Hid ((tset t s (F 1) (F 2)).2.2 = er) := hy
    have C35 := answer_nil er
    clear CH hb1 hlb u2 o0 o1 o2 o3 o4 hW0 hy
    go_wp2_with fail
    refine CT.mono ?_; rintro e w2 ⟨rfl, hw2⟩; rw [hw2]; clear hw2 CT
    go_wp2_with fail
    go_region_held3 (fun W => W.cell? ⟨lb, off + 3, none⟩ = some (.int .i64 (F 1).1) ∧ W.cell? ⟨lb, off + 3 + 1, none⟩ = some (.int .i64 (F 1).2.1) ∧ W.cell? ⟨lb, off + 3 + 2, none⟩ = some (.string (F 1).2.2) ∧ W.cell? ⟨lb, off + 6, none⟩ = some (.int .i64 (F 2).1) ∧ W.cell? ⟨lb, off + 6 + 1, none⟩ = some (.int .i64 (F 2).2.1) ∧ W.cell? ⟨lb, off + 6 + 2, none⟩ = some (.string (F 2).2.2)) (first | exact HS.out _ HE.out.2.2 | exact HS.out _ HKU.out | exact HS.out _ HT3.out.2.1 | exact HS.out _ HK1.out | go_keep) (first
      | (go_at_call 41; refine CG.mono ?_; rintro e w3 ⟨rfl, ⟨A3, b3, a3, t3⟩, k3⟩; have HT3 : Hid (TT (fun g => No g ∨ (w.heap.size ≤ g ∧ g < W0.heap.size)) w3 T A3 b3 a3 S hb (c + 7) (tset t s (F 1) (F 2)).1 (tset t s (F 1) (F 2)).2.1 ∧ Keep No w w3 ∧ R11 w3 (w.heap.size + 1) (.slice none 0 0) 0) := ⟨t3, HK1.out.trans (k3.sub (fun g q => .inl q)), (HR1.out.below (bdrN w1 1)).kept k3 (.inr ⟨by omega, HR0.out.lt⟩)⟩; clear t3 k3)
      | (go_at_call 35; refine (C35 _).mono ?_; rintro e U ⟨rfl, hu⟩; have rU := HT3.out.2.2.below hu; have tU := HT3.out.1.below hu; have kU : Keep No w U := HT3.out.2.1.bel hu; have HKU : Hid (Keep No w U) := kU; have rS := rU.set (.slice none 0 0) er; obtain ⟨U1, U2, U3, U4, U5, U6, U7, U8, U9, U10, U11, ⟨f0, n0⟩, ⟨s0, f1, n1⟩, ⟨s1, f2, n2⟩, ⟨s2, f3, n3⟩, ⟨s3, f4, n4⟩, ⟨s4, f5, n5⟩, ⟨s5, f6, n6⟩, ⟨s6, f7, n7⟩, ⟨s7, f8, n8⟩, ⟨s8, f9, n9⟩, ⟨s9, f10, n10⟩, s10, se⟩ := rU.steps (.slice none 0 0) er; have HE : Hid (R11 U11 (w.heap.size + 1) (.slice none 0 0) er ∧ TT (fun g => No g ∨ (w.heap.size ≤ g ∧ g < W0.heap.size)) U11 T A3 b3 a3 S hb (c + 7) (tset t s (F 1) (F 2)).1 (tset t s (F 1) (F 2)).2.1 ∧ Keep No w U11) := (by rw [← se]; exact ⟨rS, tU.set11 (.inr ⟨by omega, HR0.out.lt⟩) _ _, keep_set11 kU (fun q => by have := HN.out _ q; omega) _ _⟩); clear hu rU tU kU rS se))
    all_goals go_wp2
    have r0 := HE.out.1.c0
    have r1 := HE.out.1.c1
    have r2 := HE.out.1.c2
    have r3 := HE.out.1.c3
    have r4 := HE.out.1.c4
    have r5 := HE.out.1.c5
    have r6 := HE.out.1.c6
    have r7 := HE.out.1.c7
    have r8 := HE.out.1.c8
    have r9 := HE.out.1.c9
    have r10 := HE.out.1.c10
    exact bodyPost_ret (v := rp (.slice none 0 0) er) (by simp [results, Tryz.results22, go_sem, r0, r1, r2, r3, r4, r5, r6, r7, r8, r9, r10]) rfl ⟨⟨none, 0, 0, by rw [HY.out], Rq.nil _ _, No, ⟨G, cpG, T, A3, b3, a3, HM.out.1.kept HE.out.2.2 HM.out.2.2.1, by rw [World.cell?_of_block (w := w) (HE.out.2.2.block G HM.out.2.2.2.2 HM.out.2.2.2.1)]; exact HM.out.2.1, HE.out.2.1.sub (fun g q => .inl q), HM.out.2.2.1, HM.out.2.2.2.1⟩, fun g q => q, fun q => absurd rfl q⟩, HE.out.2.2⟩
end Go.Proofs.YtpmmploedkbeoaaGreatDoor

/- The walk of TablibFuel. -/
import Derived.Test.YtckgoedlgecokaaGreatDoorCg24
namespace Go.Proofs.YtckgoedlgecokaaGreatDoor
open Go.RowKit
theorem wr_nat (n : Nat) (h : n ≤ 10000) : IntKind.u64.wrap (n : Int) = (n : Int) ∧ IntKind.i64.wrap (n : Int) = (n : Int) ∧ wrap64 (n : Int) = (n : Int) := by
  refine ⟨by rw [IntKind.wrap_u64]; omega, by rw [IntKind.wrap_i64]; omega, by unfold wrap64; omega⟩
theorem wrap_nat (turn : Int) : ∃ U : Nat, IntKind.u64.wrap turn = (U : Int) := by
  rw [IntKind.wrap_u64]
  exact Int.eq_ofNat_of_zero_le (Int.emod_nonneg _ (by decide))
theorem tmod_nat (a b : Nat) : (a : Int).tmod (b : Int) = ((a % b : Nat) : Int) := by rw [Int.tmod_eq_emod_of_nonneg (Int.natCast_nonneg a)]; simp
/-- A number brought below n. -/
theorem pos_facts (k : Int) (n : Nat) (h0 : 0 < n) (h1 : n ≤ 10000) : ∃ U r : Nat, IntKind.u64.wrap k = (U : Int) ∧ IntKind.u64.wrap (n : Int) = (n : Int) ∧ (U : Int).tmod (n : Int) = (r : Int) ∧ IntKind.u64.wrap (r : Int) = (r : Int) ∧ IntKind.i64.wrap (r : Int) = (r : Int) ∧ wrap64 (r : Int) = (r : Int) ∧ r < n := by
  obtain ⟨U, hU⟩ := wrap_nat k
  have hr : U % n < n := Nat.mod_lt _ h0
  have a := wr_nat n h1
  have b := wr_nat (U % n) (by omega)
  exact ⟨U, U % n, hU, a.1, tmod_nat U n, b.1, b.2.1, b.2.2, hr⟩
theorem Tw.frameK {No N1 : Nat → Prop} {w w' : World} {T S hb c : Nat} {a : Int} {K : Nat} {f : Int → V} (h : Tw No w T S hb c a K f) (k : Keep N1 w w') (hc : ∀ g, g < w.heap.size → ¬ No g → N1 g) : Tw (fun g => No g ∨ (w.heap.size ≤ g ∧ g < w'.heap.size)) w' T S hb c a K f := by
  obtain ⟨A, b, g, t, s, h1, h2⟩ := h.ex
  exact ⟨A, b, g, t, s, h1.frame2 k.os k.tape k.output k.size (fun q hq hn => k.block q hq (hc q hq hn)), h2⟩
/-- Two tables in one memory, each on its heap; what else is to be kept. -/
structure D2 (Kp : Nat → Prop) (w : World) (T S hb c : Nat) (a : Int) (K : Nat) (f : Int → V) (T' S' hb' c' : Nat) (a' : Int) (K' : Nat) (f' : Int → V) : Prop where
  ex : ∃ N1 N2 : Nat → Prop, Tw N1 w T S hb c a K f ∧ Tw N2 w T' S' hb' c' a' K' f' ∧ (∀ g, Kp g → N1 g ∧ N2 g) ∧ ∀ g, g < w.heap.size → N1 g ∨ N2 g
section
variable {Kp : Nat → Prop} {w w' : World} {T S hb c T' S' hb' c' : Nat} {a a' : Int} {K K' : Nat} {f f' : Int → V}
theorem D2.swap (h : D2 Kp w T S hb c a K f T' S' hb' c' a' K' f') : D2 Kp w T' S' hb' c' a' K' f' T S hb c a K f := by
  obtain ⟨N1, N2, h1, h2, h3, h4⟩ := h.ex
  exact ⟨N2, N1, h2, h1, fun g q => (h3 g q).symm, fun g q => (h4 g q).symm⟩
theorem D2.below (h : D2 Kp w T S hb c a K f T' S' hb' c' a' K' f') (k : Below w.heap.size w w') : D2 Kp w' T S hb c a K f T' S' hb' c' a' K' f' := by
  obtain ⟨N1, N2, h1, h2, h3, h4⟩ := h.ex
  refine ⟨_, N2, h1.news k, h2.below k, fun g q => ⟨.inl (h3 g q).1, (h3 g q).2⟩, fun g q => ?_⟩
  rcases Nat.lt_or_ge g w.heap.size with z | z
  · exact (h4 g z).elim (fun y => .inl (.inl y)) .inr
  · exact .inl (.inr ⟨z, q⟩)
theorem D2.of {N1 N2 : Nat → Prop} {w1 : World} (h1 : Tw N1 w1 T S hb c a K f) (k : Below w1.heap.size w1 w) (h2 : Tw N2 w T' S' hb' c' a' K' f') (hk : ∀ g, Kp g → N1 g ∧ N2 g) (hn : ∀ g, g < w1.heap.size → N2 g) : D2 Kp w T S hb c a K f T' S' hb' c' a' K' f' := by
  refine ⟨_, N2, h1.news k, h2, fun g q => ⟨.inl (hk g q).1, (hk g q).2⟩, fun g q => ?_⟩
  rcases Nat.lt_or_ge g w1.heap.size with z | z
  · exact .inr (hn g z)
  · exact .inl (.inr ⟨z, q⟩)
/-- A call on the first of them. -/
theorem D2.call (h : D2 Kp w T S hb c a K f T' S' hb' c' a' K' f') {n : Nat} {args : Array Value} {r : Ending} {c2 : Nat} {P : (Int → V) → Prop} (C : ∀ N1 : Nat → Prop, (∀ g, Kp g → N1 g) → Tw N1 w T S hb c a K f → Calls Tryz.prog n args w fun e w' => e = r ∧ (∃ f2, Tw N1 w' T S hb c2 a K f2 ∧ P f2) ∧ Keep N1 w w') :
    Calls Tryz.prog n args w fun e w' => e = r ∧ (∃ f2, D2 Kp w' T S hb c2 a K f2 T' S' hb' c' a' K' f' ∧ P f2) ∧ Keep Kp w w' := by
  obtain ⟨N1, N2, h1, h2, h3, h4⟩ := h.ex
  refine (C N1 (fun g q => (h3 g q).1) h1).mono fun e w' ⟨he, ⟨f2, t, hP⟩, k⟩ => ⟨he, ⟨f2, ⟨N1, _, t, h2.frameK k (fun g q z => (h4 g q).resolve_right z), fun g q => ⟨(h3 g q).1, .inl (h3 g q).2⟩, fun g q => ?_⟩, hP⟩, k.sub fun g q => (h3 g q).1⟩
  rcases Nat.lt_or_ge g w.heap.size with z | z
  · exact (h4 g z).elim .inl (fun y => .inr (.inl y))
  · exact .inr (.inr ⟨z, q⟩)
theorem D2.run (h : D2 Kp w T S hb c a K f T' S' hb' c' a' K' f') {n : Nat} {args : Array Value} {r : Ending} {c2 : Nat} {f2 : Int → V} (C : ∀ N1 : Nat → Prop, (∀ g, Kp g → N1 g) → Tw N1 w T S hb c a K f → Calls Tryz.prog n args w fun e w' => e = r ∧ Tw N1 w' T S hb c2 a K f2 ∧ Keep N1 w w') :
    Calls Tryz.prog n args w fun e w' => e = r ∧ D2 Kp w' T S hb c2 a K f2 T' S' hb' c' a' K' f' ∧ Keep Kp w w' :=
  (h.call (P := fun x => x = f2) fun N1 n t => (C N1 n t).mono fun _ _ ⟨q1, q2, q3⟩ => ⟨q1, ⟨f2, q2, rfl⟩, q3⟩).mono fun _ _ ⟨q1, ⟨_, q2, q4⟩, q3⟩ => ⟨q1, q4 ▸ q2, q3⟩
end
theorem insL_gl {l : List V} (g : Gl l) (p : Nat) (v : V) (hv : Gv v) : Gl (insL l p v) := fun x hx => by
  unfold insL at hx
  rcases List.mem_append.1 hx with h | h
  · exact g x (List.mem_of_mem_take h)
  · rcases List.mem_cons.1 h with h | h
    · rw [h]; exact hv
    · exact g x (List.mem_of_mem_drop h)
set_option maxRecDepth 20000 in
set_option maxHeartbeats 4000000 in
theorem fuel_walk {w : World} {av : Option Addr} {cv L : Nat} {F : Nat → V} (hv : Vin w av L F) (hL : L ≤ 9223372036854775807) (k : Int) :
    Calls Tryz.prog 6 #[.slice av L cv, .int .i64 k] w fun e w' => e = .returned (.bool true) ∧ Below w.heap.size w w' := by
  have CF := fixed_any w
  have HV : Hid (Vin w av L F) := hv
  clear hv
  go_enter Tryz.func6, Tryz.ntmps6
  go_wp2_with fail
  refine CF.mono ?_
  rintro e w1 ⟨rfl, b1⟩
  have C1 := row_walk (cap := cv) (HV.out.below b1) hL
  have HB1 : Hid (Below w.heap.size w w1) := b1
  clear CF b1
  go_wp2_with fail
  refine C1.mono ?_
  rintro e w2 ⟨T, v, rfl, R1⟩
  have b2 : Below w.heap.size w w2 := HB1.out.trans (R1.bl.mono HB1.out.size)
  have C2 := row_walk (cap := cv) (HV.out.below b2) hL
  obtain ⟨l, hl⟩ : ∃ l, rwq F L = l := ⟨_, rfl⟩
  have HG : Hid (Gl l ∧ l.length ≤ 100) := ⟨by rw [← hl]; exact rwq_gl F L, by rw [← hl]; exact rwq_len F L⟩
  obtain ⟨N1, t1, n1, _⟩ := R1.tw
  obtain ⟨av1, cv1, rfl⟩ := R1.lv.form
  rw [hl] at t1 ⊢
  have H1 : Hid (Tw N1 w2 T (w1.heap.size + 1) w1.heap.size (10 + 137 * l.length) 1 200 (rowf l) ∧ (∀ g, g < w1.heap.size → N1 g)) := ⟨t1, n1⟩
  have hz2 : w1.heap.size ≤ w2.heap.size := R1.bl.size
  have HB2 : Hid (Below w.heap.size w w2) := b2
  have HLN : Hid (rwq F L = l) := hl
  clear C1 R1 t1 n1 b2 hl
  go_wp2_with fail
  refine C2.mono ?_
  rintro e w3 ⟨T2, v2, rfl, R2⟩
  obtain ⟨N2, t2, n2, _⟩ := R2.tw
  obtain ⟨av2, cv2, rfl⟩ := R2.lv.form
  rw [HLN.out] at t2 ⊢
  have D : Hid (D2 (fun g => g < w.heap.size) w3 T (w1.heap.size + 1) w1.heap.size (10 + 137 * l.length) 1 200 (rowf l) T2 (w2.heap.size + 1) w2.heap.size (10 + 137 * l.length) 1 200 (rowf l)) := D2.of H1.out.1 R2.bl t2 (fun g q => ⟨H1.out.2 g (Nat.lt_of_lt_of_le q HB1.out.size), n2 g (Nat.lt_of_lt_of_le q HB2.out.size)⟩) n2
  have HB3 : Hid (Below w.heap.size w w3) := HB2.out.trans (R2.bl.mono HB2.out.size)
  clear C2 R2 t2 n2 HLN H1 hz2
  obtain ⟨n, hn⟩ : ∃ n, l.length = n := ⟨_, rfl⟩
  have HN : Hid (l.length = n) := hn
  rw [hn]
  have hn100 : n ≤ 100 := by rw [← hn]; exact HG.out.2
  clear hn
  by_cases h0 : n = 0
  · subst h0
    go_wp2
    go_ret
    exact ⟨rfl, HB3.out⟩
  · have n0 : ((n : Int) == 0) = false := by simp; omega
    have n0' : ¬ (n : Int) = 0 := by omega
    have n0'' : (n == 0) = false := by simp; omega
    obtain ⟨U, r, hU, u1, u2, u3, u4, u5, hr⟩ := pos_facts k n (by omega) (by omega)
    have wr1 : IntKind.i64.wrap (1 + (r : Int)) = (r : Int) + 1 := by rw [IntKind.wrap_i64]; omega
    have wn1 : IntKind.i64.wrap ((n : Int) + 1) = (n : Int) + 1 := by rw [IntKind.wrap_i64]; omega
    have wd1 : IntKind.i64.wrap ((n : Int) + 1 - ((r : Int) + 1)) = (n : Int) - r := by rw [IntKind.wrap_i64]; omega
    have wd2 : IntKind.i64.wrap ((n : Int) - r - 1) = (n : Int) - r - 1 := by rw [IntKind.wrap_i64]; omega
    have CI := mkI 7
    go_wp2_with fail
    refine (CI _).mono ?_
    rintro e w4 ⟨rfl, b4⟩
    have D4 := D.out.below b4
    have HB4 : Hid (Below w.heap.size w w4) := bthen HB3.out HB3.out.size b4
    have C3 := D4.call (P := fun _ => True) fun N _ t => (insert_fuel t HG.out.1 (by have := HN.out; omega) (by have := HN.out; omega) (by omega) r (by have := HN.out; omega) (kn 7) ⟨fm_kn _, by simp⟩ ((n : Int) - r - 1) (by omega) (by have := HN.out; omega)).mono fun e w' ⟨q1, ⟨f2, q2⟩, q3⟩ => ⟨q1, ⟨f2, q2, trivial⟩, q3⟩
    clear D4 D b4 HB3
    go_wp2_with fail
    refine C3.mono ?_
    rintro e w5 ⟨rfl, ⟨f2, D5, _⟩, k5⟩
    have HD5 : Hid _ := D5.swap
    have HB5 : Hid (Below w.heap.size w w5) := HB4.out.trans (k5.below HB4.out.size fun g q => q)
    clear C3 D5 k5 HB4
    go_wp2_with fail
    refine (CI _).mono ?_
    rintro e w6 ⟨rfl, b6⟩
    have D6 := HD5.out.below b6
    have HB6 : Hid (Below w.heap.size w w6) := bthen HB5.out HB5.out.size b6
    have C4 := D6.run fun N _ t => insert_ok t HG.out.1 (by have := HN.out; omega) (by have := HN.out; omega) (by omega) r (by have := HN.out; omega) (kn 7) ⟨fm_kn _, by simp⟩ ((n : Int) - r) (by have := HN.out; omega) (by omega)
    rw [HN.out] at C4
    clear D6 HD5 b6 HB5 CI
    go_wp2_with fail
    refine C4.mono ?_
    rintro e w7 ⟨rfl, D7, k7⟩
    have HB7 : Hid (Below w.heap.size w w7) := HB6.out.trans (k7.below HB6.out.size fun g q => q)
    have HL2 : (insL l r (kn 7)).length = n + 1 := by rw [insL_len l r (kn 7) (by have := HN.out; omega), HN.out]
    have C5 := D7.call (P := fun _ => True) fun N _ t => (remove_fuel t (insL_gl HG.out.1 r (kn 7) ⟨fm_kn _, by simp⟩) (by have := HN.out; omega) (by omega) (by omega) r (by omega) ((n : Int) - r - 1) (by omega) (by omega)).mono fun e w' ⟨q1, ⟨f2, q2⟩, q3⟩ => ⟨q1, ⟨f2, q2, trivial⟩, q3⟩
    clear C4 D7 k7 HB6 HL2
    go_wp2_with fail
    refine C5.mono ?_
    rintro e w8 ⟨rfl, _, k8⟩
    have HB8 : Hid (Below w.heap.size w w8) := HB7.out.trans (k8.below HB7.out.size fun g q => q)
    have HB9 : Hid (∀ o, Below w.heap.size w (w8.alloc o)) := fun o => bthen HB8.out HB8.out.size (Go.Proofs.YtckgoedlgecokaaGreatDoor.b1 w8 o)
    clear C5 k8 HB7 HB8
    unfold vv nil vl
    go_wp2
    go_ret
    exact ⟨rfl, HB9.out _⟩
end Go.Proofs.YtckgoedlgecokaaGreatDoor

/- The walks of border: has, filled, twice, the closures. -/
import Derived.Test.YtoomlihccniooaaGreatCg33
namespace Go.Proofs.YtoomlihccniooaaGreat
open Go.RowKit

theorem bne_dec (x : Int) : (x != 0) = decide (x ≠ 0) := by
  by_cases h : x = 0 <;> simp [h]
theorem fldV (k n : Int) (s : ByteArray) (W : World) : (Instr.field 31 (.agg #[.int .i64 k, .int .i64 n, .string s]) 0).run Tryz.prog W = .ok (.int .i64 k) W := by kernel_rfl
set_option maxRecDepth 20000 in
set_option maxHeartbeats 1000000 in
theorem has_any {No : Nat → Prop} {w : World} {T A b a S hb c : Nat} {t : TS} {s : H.St} (h : TT No w T A b a S hb c t s) (hc : c ≤ 900000) (n : Int) (hr : Rng (kn n)) :
    Calls Tryz.prog 44 #[tp T, .int .i64 n] w fun e w' => e = .returned (.bool (hs t.p n)) ∧ TT No w' T A b a S hb (c + 1) { t with pr := t.pr + (rdn t.p n : Nat) } s ∧ Keep No w w' := by
  have C := tget_any h hc (kn n) hr
  have hf := fldV
  have e : hs t.p n = ((pget t.p (kn n)).1 != 0) := by rw [bne_dec]; rfl
  rw [e]
  unfold rdn
  unfold vv vl tp at C
  unfold tp
  clear h e
  go_enter Tryz.func44, Tryz.ntmps44
  go_wp2_with fail
  refine C.mono ?_; rintro e w1 ⟨rfl, h1, k1⟩
  have HT : Hid _ := And.intro h1 k1
  clear C h1 k1
  go_wp2_with fail
  go_ret
  exact ⟨rfl, HT.out⟩
set_option maxRecDepth 20000 in
set_option maxHeartbeats 1000000 in
theorem has_nil (n : Int) (w : World) : Calls Tryz.prog 44 #[.pointer none, .int .i64 n] w fun e w' => e = .returned (.bool false) ∧ Below w.heap.size w w' := by
  have C := tget_nil (kn n) w
  have hf := fldV
  unfold vv vl at C
  go_enter Tryz.func44, Tryz.ntmps44
  go_wp2_with fail
  refine C.mono ?_; rintro e w1 ⟨rfl, h1⟩
  have HT : Hid _ := h1
  clear C h1
  go_wp2_with fail
  go_ret
  exact ⟨rfl, HT.out⟩
set_option maxRecDepth 20000 in
set_option maxHeartbeats 1000000 in
theorem filled_any {w : World} {T A b a S : Nat} {t : TS} (h : Tm w T A b a S t) (hn : t.p.n ≤ 65536) (hz : t.p.z ≤ 65536) (i : Int) (h0 : 1 ≤ i) (h1 : i ≤ (t.p.n : Int)) :
    Calls Tryz.prog 39 #[tp T, .int .i64 i] w fun e w' => e = .returned (.bool (sl t.p i)) ∧ Below w.heap.size w w' := by
  have C := pair_at h hn hz i h0 (by omega)
  have e : sl t.p i = ((prO t.p i).2.1 != 0) := by rw [bne_dec]; rfl
  rw [e]
  unfold vv vl tp at C
  unfold tp
  clear h e
  generalize (prO t.p i).1 = x at *
  generalize (prO t.p i).2 = y at *
  go_enter Tryz.func39, Tryz.ntmps39
  go_wp2_with fail
  refine C.mono ?_; rintro e w1 ⟨rfl, k1⟩
  have HB : Hid _ := bthen k1 k1.size (b2 w1 (vb x.1 x.2.1 x.2.2) (vb y.1 y.2.1 y.2.2))
  unfold vb at HB
  clear C k1
  go_wp2_with fail
  go_ret
  exact ⟨rfl, HB.out⟩
theorem twice_any (n : Int) (w : World) (h0 : 0 ≤ n) (h1 : n ≤ (9223372036854775807 : Int)) : Calls Tryz.prog 75 #[.int .i64 n] w fun e w' => e = .returned (.int .i64 (tw n)) ∧ w' = w := by
  unfold tw
  by_cases h : n > 4611686018427387903
  · rw [if_pos h]
    have h' : 4611686018427387903 < n := h
    go_enter Tryz.func75, Tryz.ntmps75
    go_wp2
    go_ret
    exact ⟨rfl, rfl⟩
  · rw [if_neg h]
    have h' : ¬ (4611686018427387903 < n) := h
    have hw : IntKind.i64.wrap (2 * n) = 2 * n := by rw [IntKind.wrap_i64]; omega
    go_enter Tryz.func75, Tryz.ntmps75
    go_wp2
    go_ret
    exact ⟨rfl, rfl⟩
/-- The closure of the slots. -/
theorem slot_clo {w : World} {T A b a S X : Nat} {t : TS} (h : Tm w T A b a S t) (hn : t.p.n ≤ 65536) (hz : t.p.z ≤ 65536) (hX : w.cell? ⟨X, 0, none⟩ = some (tp T)) (i : Int) (h0 : 1 ≤ i) (h1 : i ≤ (t.p.n : Int)) :
    Calls Tryz.prog 78 #[.int .i64 i, .pointer (some ⟨X, 0, none⟩)] w fun e w' => e = .returned (.bool (sl t.p i)) ∧ Below w.heap.size w w' := by
  have C := filled_any h hn hz i h0 h1
  unfold tp at C hX
  clear h
  go_enter Tryz.func78, Tryz.ntmps78
  go_wp2_with fail
  refine C.mono ?_; rintro e w1 ⟨rfl, k1⟩
  have HB : Hid _ := k1
  clear C k1
  go_wp2_with fail
  go_ret
  exact ⟨rfl, HB.out⟩
/-- The closure of the keys. -/
theorem has_clo {No : Nat → Prop} {w : World} {T A b a S hb c X : Nat} {t : TS} {s : H.St} (h : TT No w T A b a S hb c t s) (hc : c ≤ 900000) (hX : w.cell? ⟨X, 0, none⟩ = some (tp T)) (n : Int) (hr : Rng (kn n)) :
    Calls Tryz.prog 77 #[.int .i64 n, .pointer (some ⟨X, 0, none⟩)] w fun e w' => e = .returned (.bool (hs t.p n)) ∧ TT No w' T A b a S hb (c + 1) { t with pr := t.pr + (rdn t.p n : Nat) } s ∧ Keep No w w' := by
  have C := has_any h hc n hr
  unfold tp at C hX
  clear h
  go_enter Tryz.func77, Tryz.ntmps77
  go_wp2_with fail
  refine C.mono ?_; rintro e w1 ⟨rfl, k1⟩
  have HB : Hid _ := k1
  clear C k1
  go_wp2_with fail
  go_ret
  exact ⟨rfl, HB.out⟩
set_option maxRecDepth 20000 in
set_option maxHeartbeats 2000000 in
theorem halve_52 (I : Nat → Nat → World → Prop) (P : Int → Bool) (rd : Int → Nat) (X : Nat) (l0 h0 : Int) (w : World) (hl : 0 ≤ l0) (hlh : l0 ≤ h0) (hh : h0 ≤ (9223372036854775807 : Int)) (hI : I 0 0 w)
    (step : ∀ (m : Int) (r c : Nat) (W : World), l0 < m → m < h0 → c < 64 → I r c W → Calls Tryz.prog 78 #[.int .i64 m, .pointer (some ⟨X, 0, none⟩)] W fun e w' => e = .returned (.bool (P m)) ∧ I (r + rd m) (c + 1) w') :
    Calls Tryz.prog 76 #[.int .i64 l0, .int .i64 h0, .func (.func 78) #[] #[.pointer (some ⟨X, 0, none⟩)]] w fun e w' => e = .returned (.int .i64 (hlv P rd 64 l0 h0).1) ∧ ∃ c, c ≤ 64 ∧ I (hlv P rd 64 l0 h0).2 c w' := by
  obtain ⟨x, R, hx⟩ : ∃ x R, hlv P rd 64 l0 h0 = (x, R) := ⟨_, _, rfl⟩
  rw [hx]
  have HI : Hid (I 0 0 w) := hI
  have HS : Hid (∀ (m : Int) (r c : Nat) (W : World), l0 < m → m < h0 → c < 64 → I r c W → Calls Tryz.prog 78 #[.int .i64 m, .pointer (some ⟨X, 0, none⟩)] W fun e w' => e = .returned (.bool (P m)) ∧ I (r + rd m) (c + 1) w') := step
  have HX : Hid (hlv P rd 64 l0 h0 = (x, R)) := hx
  clear hI step hx
  go_enter Tryz.func76, Tryz.ntmps76
  go_wp2_with fail
  go_loopw [0, 1] (fun lw hw wr => ∃ (f : Nat) (l h : Int) (r c : Nat), lw = .int .i64 l ∧ hw = .int .i64 h ∧ l0 ≤ l ∧ l ≤ h ∧ h ≤ h0 ∧ h - l ≤ 2 ^ f ∧ f + c = 64 ∧ Hid (I r c wr ∧ (hlv P rd f l h).1 = x ∧ (hlv P rd f l h).2 + r = R)) (fun lw hw _ => (intOf hw - intOf lw).toNat)
  case atStart => exact ⟨64, l0, h0, 0, 0, rfl, rfl, by omega, by omega, by omega, by omega, rfl, HI.out, by rw [HX.out], by rw [HX.out]; rfl⟩
  case round =>
    obtain ⟨f, l, h, r, c, rfl, rfl, g1, g2, g3, g4, g5, HR⟩ := hrel
    clear HI
    have hw0 : IntKind.i64.wrap (h - l) = h - l := by rw [IntKind.wrap_i64]; omega
    by_cases q : 1 < h - l
    · cases f with
      | zero => exfalso; simp at g4; omega
      | succ f =>
        have hp : (2 : Int) ^ (f + 1) = 2 * 2 ^ f := by rw [Int.pow_succ]; omega
        have hd : (h - l).tdiv 2 = (h - l) / 2 := by rw [Int.tdiv_eq_ediv_of_nonneg (by omega)]
        have hw1 : IntKind.i64.wrap ((h - l) / 2) = (h - l) / 2 := by rw [IntKind.wrap_i64]; omega
        have hw2 : IntKind.i64.wrap (l + (h - l) / 2) = l + (h - l) / 2 := by rw [IntKind.wrap_i64]; omega
        obtain ⟨m, hm⟩ : ∃ m, l + (h - l) / 2 = m := ⟨_, rfl⟩
        have C := HS.out m r c wr (by omega) (by omega) (by omega) HR.out.1
        have HE : Hid (hlv P rd (f + 1) l h = if P m then ((hlv P rd f m h).1, (hlv P rd f m h).2 + rd m) else ((hlv P rd f l m).1, (hlv P rd f l m).2 + rd m)) := by
          show _ = _
          rw [hlv, if_pos q, hm]
        rw [hm] at hw2
        have HM : Hid (l < m ∧ m < h ∧ h - m ≤ 2 ^ f ∧ m - l ≤ 2 ^ f) := ⟨by omega, by omega, by omega, by omega⟩
        go_wp2_with fail
        refine C.mono ?_; rintro e w1 ⟨rfl, h1⟩
        have H1 : Hid (I (r + rd m) (c + 1) w1) := h1
        clear C h1
        have HP : Hid ((P m = true → (hlv P rd f m h).1 = x ∧ (hlv P rd f m h).2 + (r + rd m) = R) ∧ (P m = false → (hlv P rd f l m).1 = x ∧ (hlv P rd f l m).2 + (r + rd m) = R)) := by
          obtain ⟨_, q1, q2⟩ := HR.out
          rw [HE.out] at q1 q2
          constructor
          · intro e; rw [if_pos e] at q1 q2; exact ⟨q1, by simp only at q2; omega⟩
          · intro e; rw [if_neg (by simp [e])] at q1 q2; exact ⟨q1, by simp only at q2; omega⟩
        clear HE HR
        cases hPm : P m with
        | true =>
          have HQ : Hid _ := HP.out.1 hPm
          clear HP hPm
          go_wp2_with fail
          go_round
          case rel => exact ⟨f, m, h, r + rd m, c + 1, rfl, rfl, by have := HM.out; omega, by have := HM.out; omega, g3, HM.out.2.2.1, by omega, H1.out, HQ.out.1, HQ.out.2⟩
          case measure => have := HM.out; simp [intOf]; omega
        | false =>
          have HQ : Hid _ := HP.out.2 hPm
          clear HP hPm
          go_wp2_with fail
          go_round
          case rel => exact ⟨f, l, m, r + rd m, c + 1, rfl, rfl, g1, by have := HM.out; omega, by have := HM.out; omega, HM.out.2.2.2, by omega, H1.out, HQ.out.1, HQ.out.2⟩
          case measure => have := HM.out; simp [intOf]; omega
    · have HE : Hid (hlv P rd f l h = (l, 0)) := by
        show _ = _
        cases f with
        | zero => rfl
        | succ f => rw [hlv, if_neg q]
      go_wp2_with fail
      go_ret
      obtain ⟨q0, q1, q2⟩ := HR.out
      rw [HE.out] at q1 q2
      simp only at q1 q2
      subst q1
      refine ⟨rfl, c, by omega, ?_⟩
      have : r = R := by omega
      rw [← this]
      exact q0
set_option maxRecDepth 20000 in
set_option maxHeartbeats 2000000 in
theorem halve_51 (I : Nat → Nat → World → Prop) (P : Int → Bool) (rd : Int → Nat) (X : Nat) (l0 h0 : Int) (w : World) (hl : 0 ≤ l0) (hlh : l0 ≤ h0) (hh : h0 ≤ (9223372036854775807 : Int)) (hI : I 0 0 w)
    (step : ∀ (m : Int) (r c : Nat) (W : World), l0 < m → m < h0 → c < 64 → I r c W → Calls Tryz.prog 77 #[.int .i64 m, .pointer (some ⟨X, 0, none⟩)] W fun e w' => e = .returned (.bool (P m)) ∧ I (r + rd m) (c + 1) w') :
    Calls Tryz.prog 76 #[.int .i64 l0, .int .i64 h0, .func (.func 77) #[] #[.pointer (some ⟨X, 0, none⟩)]] w fun e w' => e = .returned (.int .i64 (hlv P rd 64 l0 h0).1) ∧ ∃ c, c ≤ 64 ∧ I (hlv P rd 64 l0 h0).2 c w' := by
  obtain ⟨x, R, hx⟩ : ∃ x R, hlv P rd 64 l0 h0 = (x, R) := ⟨_, _, rfl⟩
  rw [hx]
  have HI : Hid (I 0 0 w) := hI
  have HS : Hid (∀ (m : Int) (r c : Nat) (W : World), l0 < m → m < h0 → c < 64 → I r c W → Calls Tryz.prog 77 #[.int .i64 m, .pointer (some ⟨X, 0, none⟩)] W fun e w' => e = .returned (.bool (P m)) ∧ I (r + rd m) (c + 1) w') := step
  have HX : Hid (hlv P rd 64 l0 h0 = (x, R)) := hx
  clear hI step hx
  go_enter Tryz.func76, Tryz.ntmps76
  go_wp2_with fail
  go_loopw [0, 1] (fun lw hw wr => ∃ (f : Nat) (l h : Int) (r c : Nat), lw = .int .i64 l ∧ hw = .int .i64 h ∧ l0 ≤ l ∧ l ≤ h ∧ h ≤ h0 ∧ h - l ≤ 2 ^ f ∧ f + c = 64 ∧ Hid (I r c wr ∧ (hlv P rd f l h).1 = x ∧ (hlv P rd f l h).2 + r = R)) (fun lw hw _ => (intOf hw - intOf lw).toNat)
  case atStart => exact ⟨64, l0, h0, 0, 0, rfl, rfl, by omega, by omega, by omega, by omega, rfl, HI.out, by rw [HX.out], by rw [HX.out]; rfl⟩
  case round =>
    obtain ⟨f, l, h, r, c, rfl, rfl, g1, g2, g3, g4, g5, HR⟩ := hrel
    clear HI
    have hw0 : IntKind.i64.wrap (h - l) = h - l := by rw [IntKind.wrap_i64]; omega
    by_cases q : 1 < h - l
    · cases f with
      | zero => exfalso; simp at g4; omega
      | succ f =>
        have hp : (2 : Int) ^ (f + 1) = 2 * 2 ^ f := by rw [Int.pow_succ]; omega
        have hd : (h - l).tdiv 2 = (h - l) / 2 := by rw [Int.tdiv_eq_ediv_of_nonneg (by omega)]
        have hw1 : IntKind.i64.wrap ((h - l) / 2) = (h - l) / 2 := by rw [IntKind.wrap_i64]; omega
        have hw2 : IntKind.i64.wrap (l + (h - l) / 2) = l + (h - l) / 2 := by rw [IntKind.wrap_i64]; omega
        obtain ⟨m, hm⟩ : ∃ m, l + (h - l) / 2 = m := ⟨_, rfl⟩
        have C := HS.out m r c wr (by omega) (by omega) (by omega) HR.out.1
        have HE : Hid (hlv P rd (f + 1) l h = if P m then ((hlv P rd f m h).1, (hlv P rd f m h).2 + rd m) else ((hlv P rd f l m).1, (hlv P rd f l m).2 + rd m)) := by
          show _ = _
          rw [hlv, if_pos q, hm]
        rw [hm] at hw2
        have HM : Hid (l < m ∧ m < h ∧ h - m ≤ 2 ^ f ∧ m - l ≤ 2 ^ f) := ⟨by omega, by omega, by omega, by omega⟩
        go_wp2_with fail
        refine C.mono ?_; rintro e w1 ⟨rfl, h1⟩
        have H1 : Hid (I (r + rd m) (c + 1) w1) := h1
        clear C h1
        have HP : Hid ((P m = true → (hlv P rd f m h).1 = x ∧ (hlv P rd f m h).2 + (r + rd m) = R) ∧ (P m = false → (hlv P rd f l m).1 = x ∧ (hlv P rd f l m).2 + (r + rd m) = R)) := by
          obtain ⟨_, q1, q2⟩ := HR.out
          rw [HE.out] at q1 q2
          constructor
          · intro e; rw [if_pos e] at q1 q2; exact ⟨q1, by simp only at q2; omega⟩
          · intro e; rw [if_neg (by simp [e])] at q1 q2; exact ⟨q1, by simp only at q2; omega⟩
        clear HE HR
        cases hPm : P m with
        | true =>
          have HQ : Hid _ := HP.out.1 hPm
          clear HP hPm
          go_wp2_with fail
          go_round
          case rel => exact ⟨f, m, h, r + rd m, c + 1, rfl, rfl, by have := HM.out; omega, by have := HM.out; omega, g3, HM.out.2.2.1, by omega, H1.out, HQ.out.1, HQ.out.2⟩
          case measure => have := HM.out; simp [intOf]; omega
        | false =>
          have HQ : Hid _ := HP.out.2 hPm
          clear HP hPm
          go_wp2_with fail
          go_round
          case rel => exact ⟨f, l, m, r + rd m, c + 1, rfl, rfl, g1, by have := HM.out; omega, by have := HM.out; omega, HM.out.2.2.2, by omega, H1.out, HQ.out.1, HQ.out.2⟩
          case measure => have := HM.out; simp [intOf]; omega
    · have HE : Hid (hlv P rd f l h = (l, 0)) := by
        show _ = _
        cases f with
        | zero => rfl
        | succ f => rw [hlv, if_neg q]
      go_wp2_with fail
      go_ret
      obtain ⟨q0, q1, q2⟩ := HR.out
      rw [HE.out] at q1 q2
      simp only at q1 q2
      subst q1
      refine ⟨rfl, c, by omega, ?_⟩
      have : r = R := by omega
      rw [← this]
      exact q0
end Go.Proofs.YtoomlihccniooaaGreat

/- The walks of border, on: inArray, behindArray, Len, Is. -/
namespace Go.Proofs.YtoomlihccniooaaGreat
open Go.RowKit

theorem rng_kn {n : Int} (h0 : 0 ≤ n) (h1 : n ≤ (9223372036854775807 : Int)) : Rng (kn n) := by constructor <;> simp <;> omega
theorem box1 (w : World) (v : Value) (ty : Nat) : Below w.heap.size w (w.alloc (.cells #[v] ty)) ∧ (w.alloc (.cells #[v] ty)).cell? ⟨w.heap.size, 0, none⟩ = some v :=
  ⟨b1 w _, cell_of_row (MapKept.heap_alloc w _).1 0⟩
theorem cell_below {w w' : World} {X : Nat} {v : Value} (hX : w.cell? ⟨X, 0, none⟩ = some v) (hl : X < w.heap.size) (k : Below w.heap.size w w') : w'.cell? ⟨X, 0, none⟩ = some v := by
  rw [World.cell?_of_block (w := w) (k.block X hl)]; exact hX
set_option maxRecDepth 20000 in
set_option maxHeartbeats 1000000 in
theorem inArray_any {w : World} {T A b a S : Nat} {t : TS} (h : Tm w T A b a S t) (ti : TI t.p) (hh : 0 ≤ t.hint ∧ t.hint ≤ (t.p.n : Int)) (hn0 : t.p.n ≠ 0) (hsn : sl t.p t.p.n = false) :
    Calls Tryz.prog 41 #[tp T, .int .i64 (t.p.n : Nat), .int .i64 t.hint] w fun e w' => e = .returned (.int .i64 (inAr t)) ∧ Below w.heap.size w w' := by
  have hle := ti.le
  have hlz := ti.rt.le
  obtain ⟨B0, x0⟩ := box1 w (tp T) 26
  have hx : w.heap.size < (w.alloc (.cells #[tp T] 26)).heap.size := by simp
  obtain ⟨W0, hW0⟩ : ∃ W0, w.alloc (.cells #[tp T] 26) = W0 := ⟨_, rfl⟩
  rw [hW0] at B0 x0 hx
  generalize hX : w.heap.size = X at *
  have h0 : Tm W0 T A b a S t := h.below (by rw [hX]; exact B0)
  have HC : Hid (∀ (i : Int) (W : World), Below W0.heap.size W0 W → 1 ≤ i → i ≤ (t.p.n : Int) → Calls Tryz.prog 78 #[.int .i64 i, .pointer (some ⟨X, 0, none⟩)] W fun e w' => e = .returned (.bool (sl t.p i)) ∧ Below W0.heap.size W0 w') := fun i W q q0 q1 =>
    (slot_clo (h0.below q) hle hlz (cell_below x0 hx q) i q0 q1).mono fun e w' hh => ⟨hh.1, bthen q q.size hh.2⟩
  have HH : Hid (∀ (l u : Int) (W : World), Below W0.heap.size W0 W → 0 ≤ l → l ≤ u → u ≤ (t.p.n : Int) → Calls Tryz.prog 76 #[.int .i64 l, .int .i64 u, .func (.func 78) #[] #[.pointer (some ⟨X, 0, none⟩)]] W fun e w' => e = .returned (.int .i64 (hlv (sl t.p) (fun _ => 0) 64 l u).1) ∧ Below W0.heap.size W0 w') := fun l u W q q0 q1 q2 =>
    (halve_52 (fun _ _ W => Below W0.heap.size W0 W) (sl t.p) (fun _ => 0) X l u W q0 q1 (by omega) q (fun m r c W' g0 g1 _ g3 => HC.out m W' g3 (by omega) (by omega))).mono fun e w' hh => ⟨hh.1, hh.2.choose_spec.2⟩
  have HB : Hid (∀ W, Below W0.heap.size W0 W → Below X w W) := fun W q => by rw [← hX] at B0 ⊢; exact bthen B0 B0.size q
  unfold inAr
  unfold tp at hW0 ⊢
  clear h h0 B0 x0 hx
  obtain ⟨hi0, hi1⟩ := hh
  by_cases e1 : t.hint > 0
  · have e1' : (0 : Int) < t.hint := e1
    have C1 := HC.out t.hint W0 (Below.refl _ _) (by omega) hi1
    cases hs1 : sl t.p t.hint with
    | false =>
      rw [if_pos ⟨e1, rfl⟩]
      rw [hs1] at C1
      generalize t.hint = hn at *
      go_enter Tryz.func41, Tryz.ntmps41
      go_wp2_with fail
      refine C1.mono ?_; rintro e W1 ⟨rfl, k1⟩
      have C2 := HH.out 0 hn W1 k1 (by omega) (by omega) hi1
      clear C1 k1
      go_wp2_with fail
      refine C2.mono ?_; rintro e W2 ⟨rfl, k2⟩
      have HK : Hid _ := k2
      clear C2 k2
      go_wp2_with fail
      go_ret
      exact ⟨rfl, HB.out _ HK.out⟩
    | true =>
      have hlt : t.hint < t.p.n := by
        by_cases r : t.hint = t.p.n
        · rw [r, hsn] at hs1; cases hs1
        · omega
      rw [if_neg (by simp)]
      rw [hs1] at C1
      have HC2 : Hid (∀ W, Below W0.heap.size W0 W → _) := fun W q => HC.out (t.hint + 1) W q (by omega) (by omega)
      have hw : IntKind.i64.wrap (t.hint + 1) = t.hint + 1 := by rw [IntKind.wrap_i64]; omega
      generalize t.hint = hn at *
      cases hs2 : sl t.p (hn + 1) with
      | false =>
        rw [if_pos rfl]
        rw [hs2] at HC2
        go_enter Tryz.func41, Tryz.ntmps41
        go_wp2_with fail
        refine C1.mono ?_; rintro e W1 ⟨rfl, k1⟩
        have C2 := HC2.out W1 k1
        clear C1 k1
        go_wp2_with fail
        refine C2.mono ?_; rintro e W2 ⟨rfl, k2⟩
        have HK : Hid _ := k2
        clear C2 k2
        go_wp2_with fail
        go_ret
        exact ⟨rfl, HB.out _ HK.out⟩
      | true =>
        rw [if_neg (by simp)]
        rw [hs2] at HC2
        go_enter Tryz.func41, Tryz.ntmps41
        go_wp2_with fail
        refine C1.mono ?_; rintro e W1 ⟨rfl, k1⟩
        have C2 := HC2.out W1 k1
        clear C1 k1
        go_wp2_with fail
        refine C2.mono ?_; rintro e W2 ⟨rfl, k2⟩
        have C3 := HH.out hn t.p.n W2 k2 hi0 hi1 (Int.le_refl _)
        clear C2 k2
        go_wp2_with fail
        refine C3.mono ?_; rintro e W3 ⟨rfl, k3⟩
        have HK : Hid _ := k3
        clear C3 k3
        go_wp2_with fail
        go_ret
        exact ⟨rfl, HB.out _ HK.out⟩
  · have e0 : t.hint = 0 := by omega
    have HC2 : Hid (∀ W, Below W0.heap.size W0 W → _) := fun W q => HC.out 1 W q (by omega) (by omega)
    rw [if_neg (fun q => e1 q.1), e0]
    show Calls _ _ _ _ fun e w' => e = .returned (.int .i64 (if sl t.p 1 = false then 0 else _)) ∧ _
    cases hs2 : sl t.p 1 with
    | false =>
      rw [if_pos rfl]
      rw [hs2] at HC2
      have C2 := HC2.out W0 (Below.refl _ _)
      go_enter Tryz.func41, Tryz.ntmps41
      go_wp2_with fail
      refine C2.mono ?_; rintro e W2 ⟨rfl, k2⟩
      have HK : Hid _ := k2
      clear C2 k2
      go_wp2_with fail
      go_ret
      exact ⟨rfl, HB.out _ HK.out⟩
    | true =>
      rw [if_neg (by simp)]
      rw [hs2] at HC2
      have C2 := HC2.out W0 (Below.refl _ _)
      go_enter Tryz.func41, Tryz.ntmps41
      go_wp2_with fail
      refine C2.mono ?_; rintro e W2 ⟨rfl, k2⟩
      have C3 := HH.out 0 t.p.n W2 k2 (by omega) (by omega) (Int.le_refl _)
      clear C2 k2
      go_wp2_with fail
      refine C3.mono ?_; rintro e W3 ⟨rfl, k3⟩
      have HK : Hid _ := k3
      clear C3 k3
      go_wp2_with fail
      go_ret
      exact ⟨rfl, HB.out _ HK.out⟩
end Go.Proofs.YtoomlihccniooaaGreat

/- The walks of the reference's slot, there and Is. The numbers of the seat of BorderPlays. -/
namespace Go.Proofs.YtoomlihccniooaaGreat
open Go.RowKit

set_option maxRecDepth 20000 in
set_option maxHeartbeats 2000000 in
theorem rslot_any {w : World} {RT A P ka va ca : Nat} {cb : Nat → Nat} {G : Nat} {t : TS} (h : Rb w RT A P ka va ca cb G t) (hle : t.p.n ≤ 65536) (i : Int) (h0 : 1 ≤ i) (h1 : i ≤ (t.p.n : Int)) :
    Calls Tryz.prog 42 #[.pointer (some ⟨RT, 0, none⟩), .int .i64 i] w fun e w' => e = .returned (.bool (sl t.p i)) ∧ w' = w := by
  obtain ⟨j, rfl⟩ : ∃ j : Nat, i = (j : Int) + 1 := ⟨(i - 1).toNat, by omega⟩
  have hj : j < t.p.n := by omega
  have e : sl t.p ((j : Int) + 1) = ((t.p.F j).1 != 0) := by
    unfold sl prO
    rw [if_neg (by omega), if_pos h1, show ((j : Int) + 1).toNat - 1 = j by omega, bne_dec]
  rw [e]
  have c0 := h.c0
  have s0 := (h.sl.at hj).1
  have hj3 : (j : Int) < (t.p.n : Int) := by omega
  have hj4 : ¬ ((j : Int) < 0) := by omega
  have hw0 : IntKind.i64.wrap (j : Int) = (j : Int) := by rw [IntKind.wrap_i64]; omega
  have hw1 : IntKind.i64.wrap ((j : Int) + 1 - 1) = (j : Int) := by rw [IntKind.wrap_i64]; omega
  clear h e h0 h1 hj
  generalize (t.p.F j).1 = x at *
  generalize t.p.n = n at *
  go_enter Tryz.func42, Tryz.ntmps42
  go_wp2_with fail
  go_ret
  exact ⟨rfl, rfl⟩
theorem fldW (k n : Int) (s : ByteArray) (W : World) : (Instr.field 31 (.agg #[.int .i64 k, .int .i64 n, .string s]) 0).run Tryz.prog W = .ok (.int .i64 k) W := by kernel_rfl
set_option maxRecDepth 20000 in
set_option maxHeartbeats 2000000 in
theorem rthere_any {No : Nat → Prop} {w : World} {RT A P ka va ca : Nat} {cb : Nat → Nat} {G c : Nat} {t : TS} {s : H.St} (h : RQ No w RT A P ka va ca cb G c t s) (hc : c ≤ 700000) (n : Int) (hr : Rng (kn n)) :
    Calls Tryz.prog 43 #[.pointer (some ⟨RT, 0, none⟩), .int .i64 n] w fun e w' => e = .returned (.bool (hs t.p n)) ∧ RQ No w' RT A P ka va ca cb G (c + 1) { t with pr := t.pr + (rdn t.p n : Nat) } s ∧ Keep No w w' := by
  have CI := mkI n w
  have HC : Hid (∀ W, Below w.heap.size w W → Calls Tryz.prog 14 #[.pointer (some ⟨RT, 0, none⟩), .agg #[.int .i64 2, .int .i64 n, .string ⟨#[]⟩]] W fun e w' => e = .returned (.agg #[.int .i64 (pget t.p (kn n)).1, .int .i64 (pget t.p (kn n)).2.1, .string (pget t.p (kn n)).2.2]) ∧ RQ No w' RT A P ka va ca cb G (c + 1) { t with pr := t.pr + (rdn t.p n : Nat) } s ∧ Keep No w w') := fun W hW =>
    (rtget_any (h.below hW) hc (kn n) hr).mono fun e w' hh => ⟨hh.1, hh.2.1, (Keep.of hW).trans hh.2.2⟩
  have e : hs t.p n = ((pget t.p (kn n)).1 != 0) := by unfold hs; rw [bne_dec]
  rw [e]
  have hf := fldW
  unfold vl at CI
  clear h e
  generalize pget t.p (kn n) = x at *
  go_enter Tryz.func43, Tryz.ntmps43
  go_wp2_with fail
  refine CI.mono ?_; rintro e W1 ⟨rfl, hb1⟩
  have CG := HC.out W1 hb1
  clear CI hb1 HC
  go_wp2_with fail
  refine CG.mono ?_; rintro e W2 ⟨rfl, q2⟩
  have HQ : Hid _ := q2
  clear CG q2
  go_wp2_with fail
  go_ret
  exact ⟨rfl, HQ.out⟩
/-- r nodes were read in k questions. -/
structure Ry (No : Nat → Prop) (w : World) (RT A P ka va ca : Nat) (cb : Nat → Nat) (G c : Nat) (t : TS) (s : H.St) (r k : Nat) (W : World) : Prop where
  rq : RQ No W RT A P ka va ca cb G (c + k) { t with pr := t.pr + (r : Nat) } s
  kp : Keep No w W
section
variable {No : Nat → Prop} {w : World} {RT A P ka va ca : Nat} {cb : Nat → Nat} {G c : Nat} {t : TS} {s : H.St}
theorem Ry.ask {r k : Nat} {W : World} (h : Ry No w RT A P ka va ca cb G c t s r k W) (hc : c ≤ 600000) (hk : k ≤ 1000) (n : Int) (h0 : 0 ≤ n) (h1 : n ≤ (9223372036854775807 : Int)) :
    Calls Tryz.prog 43 #[.pointer (some ⟨RT, 0, none⟩), .int .i64 n] W fun e w' => e = .returned (.bool (hs t.p n)) ∧ Ry No w RT A P ka va ca cb G c t s (r + rdn t.p n) (k + 1) w' :=
  (rthere_any h.1 (by omega) n (rng_kn h0 h1)).mono fun e w' hh => ⟨hh.1, by
    have q := hh.2.1
    have e1 : t.pr + (r : Nat) + (rdn t.p n : Nat) = t.pr + ((r + rdn t.p n : Nat) : Int) := by push_cast; omega
    show RQ No w' RT A P ka va ca cb G (c + (k + 1)) { t with pr := t.pr + ((r + rdn t.p n : Nat) : Int) } s
    rw [← e1]
    exact q, h.2.trans hh.2.2⟩
theorem Ry.done {r k m : Nat} {W : World} (h : Ry No w RT A P ka va ca cb G c t s r k W) (hk : k ≤ m) : RQ No W RT A P ka va ca cb G (c + m) { t with pr := t.pr + (r : Nat) } s ∧ Keep No w W := ⟨h.1.more (by omega), h.2⟩
theorem Ry.start (h : RQ No w RT A P ka va ca cb G c t s) {W : World} (hb : Below w.heap.size w W) : Ry No w RT A P ka va ca cb G c t s 0 0 W := by
  refine ⟨?_, Keep.of hb⟩
  show RQ No W RT A P ka va ca cb G (c + 0) { t with pr := t.pr + ((0 : Nat) : Int) } s
  rw [show t.pr + ((0 : Nat) : Int) = t.pr by omega]
  exact h.below hb
set_option maxRecDepth 20000 in
set_option maxHeartbeats 2000000 in
theorem ris_any (h : RQ No w RT A P ka va ca cb G c t s) (hc : c ≤ 600000) (n : Int) (hr0 : -9223372036854775808 ≤ n) (hr1 : n ≤ (9223372036854775807 : Int)) :
    Calls Tryz.prog 12 #[.pointer (some ⟨RT, 0, none⟩), .int .i64 n] w fun e w' => e = .returned (.bool (bis t n).1) ∧ RQ No w' RT A P ka va ca cb G (c + 2) (bis t n).2 s ∧ Keep No w w' := by
  have HY0 : Hid (Ry No w RT A P ka va ca cb G c t s 0 0 w) := Ry.start h (Below.refl _ _)
  have HA : Hid (∀ (r k : Nat) (W : World) (m : Int), k ≤ 1000 → 0 ≤ m → m ≤ (9223372036854775807 : Int) → Ry No w RT A P ka va ca cb G c t s r k W → Calls Tryz.prog 43 #[.pointer (some ⟨RT, 0, none⟩), .int .i64 m] W fun e w' => e = .returned (.bool (hs t.p m)) ∧ Ry No w RT A P ka va ca cb G c t s (r + rdn t.p m) (k + 1) w') := fun r k W m hk g0 g1 q => q.ask hc hk m g0 g1
  have HT0 : Hid (RQ No w RT A P ka va ca cb G (c + 2) t s) := h.more (by omega)
  clear h
  unfold bis
  by_cases q0 : n < 0
  · rw [if_pos q0]
    go_enter Tryz.func12, Tryz.ntmps12
    go_wp2_with fail
    go_ret
    exact ⟨rfl, HT0.out, Keep.refl _ _⟩
  · rw [if_neg q0]
    by_cases q1 : n > 0
    · have q1' : 0 < n := q1
      have C1 := HA.out 0 0 w n (by omega) (by omega) hr1 HY0.out
      rw [Nat.zero_add, Nat.zero_add] at C1
      cases e1 : hs t.p n with
      | false =>
        rw [e1] at C1
        rw [if_pos ⟨q1, rfl⟩]
        clear q1
        go_enter Tryz.func12, Tryz.ntmps12
        go_wp2_with fail
        refine C1.mono ?_; rintro e W1 ⟨rfl, k1⟩
        have HK : Hid _ := k1
        clear C1 k1
        go_wp2_with fail
        go_ret
        exact ⟨rfl, HK.out.done (by omega)⟩
      | true =>
        rw [e1] at C1
        rw [if_neg (by simp)]
        by_cases q2 : n = (9223372036854775807 : Int)
        · rw [if_pos q2, if_pos q1]
          have q2' : (n == (9223372036854775807 : Int)) = true := by simp [q2]
          clear q1 q2
          go_enter Tryz.func12, Tryz.ntmps12
          go_wp2_with fail
          refine C1.mono ?_; rintro e W1 ⟨rfl, k1⟩
          have HK : Hid _ := k1
          clear C1 k1
          go_wp2_with fail
          go_ret
          exact ⟨rfl, HK.out.done (by omega)⟩
        · rw [if_neg q2, if_pos q1]
          have q2' : (n == (9223372036854775807 : Int)) = false := by simpa using q2
          have hw : IntKind.i64.wrap (n + 1) = n + 1 := by rw [IntKind.wrap_i64]; omega
          have HA2 : Hid (∀ W, Ry No w RT A P ka va ca cb G c t s (rdn t.p n) 1 W → Calls Tryz.prog 43 #[.pointer (some ⟨RT, 0, none⟩), .int .i64 (n + 1)] W fun e w' => e = .returned (.bool (hs t.p (n + 1))) ∧ Ry No w RT A P ka va ca cb G c t s (rdn t.p n + rdn t.p (n + 1)) 2 w') := fun W q => HA.out _ _ W (n + 1) (by omega) (by omega) (by omega) q
          have ee : t.pr + (rdn t.p n : Nat) + (rdn t.p (n + 1) : Nat) = t.pr + ((rdn t.p n + rdn t.p (n + 1) : Nat) : Int) := by push_cast; omega
          rw [ee]
          obtain ⟨b2, hb2⟩ : ∃ b2, hs t.p (n + 1) = b2 := ⟨_, rfl⟩
          rw [hb2] at HA2 ⊢
          clear q1 q2 ee hb2
          go_enter Tryz.func12, Tryz.ntmps12
          go_wp2_with fail
          refine C1.mono ?_; rintro e W1 ⟨rfl, k1⟩
          have C2 := HA2.out W1 k1
          clear C1 k1
          go_wp2_with fail
          refine C2.mono ?_; rintro e W2 ⟨rfl, k2⟩
          have HK : Hid _ := k2
          clear C2 k2
          go_wp2_with fail
          go_ret
          exact ⟨rfl, HK.out.done (by omega)⟩
    · have n0 : n = 0 := by omega
      subst n0
      rw [if_neg (by simp), if_neg (by omega), if_neg (by omega)]
      have C1 := HA.out 0 0 w 1 (by omega) (by omega) (by omega) HY0.out
      rw [Nat.zero_add, Nat.zero_add] at C1
      have ee : t.pr + ((0 : Nat) : Int) + (rdn t.p (0 + 1) : Nat) = t.pr + (rdn t.p 1 : Nat) := by rw [show (0 : Int) + 1 = 1 by rfl]; omega
      rw [ee, show (0 : Int) + 1 = 1 by rfl]
      clear ee
      generalize hs t.p 1 = b2 at *
      go_enter Tryz.func12, Tryz.ntmps12
      go_wp2_with fail
      refine C1.mono ?_; rintro e W1 ⟨rfl, k1⟩
      have HK : Hid _ := k1
      clear C1 k1
      go_wp2_with fail
      go_ret
      exact ⟨rfl, HK.out.done (by omega)⟩
end
end Go.Proofs.YtoomlihccniooaaGreat

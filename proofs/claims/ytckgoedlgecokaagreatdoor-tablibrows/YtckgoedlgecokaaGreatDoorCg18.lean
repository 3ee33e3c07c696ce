/- The walks of border: has, filled, twice, the closures. -/
import Derived.Test.YtckgoedlgecokaaGreatDoorCg17
namespace Go.Proofs.YtckgoedlgecokaaGreatDoor
open Go.RowKit

theorem bne_dec (x : Int) : (x != 0) = decide (x ≠ 0) := by
  by_cases h : x = 0 <;> simp [h]
theorem fldV (k n : Int) (s : ByteArray) (W : World) : (Instr.field 24 (.agg #[.int .i64 k, .int .i64 n, .string s]) 0).run Tryz.prog W = .ok (.int .i64 k) W := by kernel_rfl
set_option maxRecDepth 20000 in
set_option maxHeartbeats 1000000 in
theorem has_any {No : Nat → Prop} {w : World} {T A b a S hb c : Nat} {t : TS} {s : H.St} (h : TT No w T A b a S hb c t s) (hc : c ≤ 900000) (n : Int) (hr : Rng (kn n)) :
    Calls Tryz.prog 64 #[tp T, .int .i64 n] w fun e w' => e = .returned (.bool (hs t.p n)) ∧ TT No w' T A b a S hb (c + 1) { t with pr := t.pr + (rdn t.p n : Nat) } s ∧ Keep No w w' := by
  have C := tget_any h hc (kn n) hr
  have hf := fldV
  have e : hs t.p n = ((pget t.p (kn n)).1 != 0) := by rw [bne_dec]; rfl
  rw [e]
  unfold rdn
  unfold vv vl tp at C
  unfold tp
  clear h e
  go_enter Tryz.func64, Tryz.ntmps64
  go_wp2_with fail
  refine C.mono ?_; rintro e w1 ⟨rfl, h1, k1⟩
  have HT : Hid _ := And.intro h1 k1
  clear C h1 k1
  go_wp2_with fail
  go_ret
  exact ⟨rfl, HT.out⟩
set_option maxRecDepth 20000 in
set_option maxHeartbeats 1000000 in
theorem has_nil (n : Int) (w : World) : Calls Tryz.prog 64 #[.pointer none, .int .i64 n] w fun e w' => e = .returned (.bool false) ∧ Below w.heap.size w w' := by
  have C := tget_nil (kn n) w
  have hf := fldV
  unfold vv vl at C
  go_enter Tryz.func64, Tryz.ntmps64
  go_wp2_with fail
  refine C.mono ?_; rintro e w1 ⟨rfl, h1⟩
  have HT : Hid _ := h1
  clear C h1
  go_wp2_with fail
  go_ret
  exact ⟨rfl, HT.out⟩
set_option maxRecDepth 20000 in
set_option maxHeartbeats 1000000 in
theorem filled_any {w : World} {T A b a S : Nat} {t : TS} (h : Tm w T A b a S t) (hn : t.p.n ≤ 65536) (hz : t.p.z ≤ 65536) (i : Int) (h0 : 1 ≤ i) (h1 : i ≤ (t.p.n : Int)) :
    Calls Tryz.prog 45 #[tp T, .int .i64 i] w fun e w' => e = .returned (.bool (sl t.p i)) ∧ Below w.heap.size w w' := by
  have C := pair_at h hn hz i h0 (by omega)
  have e : sl t.p i = ((prO t.p i).2.1 != 0) := by rw [bne_dec]; rfl
  rw [e]
  unfold vv vl tp at C
  unfold tp
  clear h e
  generalize (prO t.p i).1 = x at *
  generalize (prO t.p i).2 = y at *
  go_enter Tryz.func45, Tryz.ntmps45
  go_wp2_with fail
  refine C.mono ?_; rintro e w1 ⟨rfl, k1⟩
  have HB : Hid _ := bthen k1 k1.size (b2 w1 (vb x.1 x.2.1 x.2.2) (vb y.1 y.2.1 y.2.2))
  unfold vb at HB
  clear C k1
  go_wp2_with fail
  go_ret
  exact ⟨rfl, HB.out⟩
theorem twice_any (n : Int) (w : World) (h0 : 0 ≤ n) (h1 : n ≤ (9223372036854775807 : Int)) : Calls Tryz.prog 65 #[.int .i64 n] w fun e w' => e = .returned (.int .i64 (tw n)) ∧ w' = w := by
  unfold tw
  by_cases h : n > 4611686018427387903
  · rw [if_pos h]
    have h' : 4611686018427387903 < n := h
    go_enter Tryz.func65, Tryz.ntmps65
    go_wp2
    go_ret
    exact ⟨rfl, rfl⟩
  · rw [if_neg h]
    have h' : ¬ (4611686018427387903 < n) := h
    have hw : IntKind.i64.wrap (2 * n) = 2 * n := by rw [IntKind.wrap_i64]; omega
    go_enter Tryz.func65, Tryz.ntmps65
    go_wp2
    go_ret
    exact ⟨rfl, rfl⟩
/-- The closure of the slots. -/
theorem slot_clo {w : World} {T A b a S X : Nat} {t : TS} (h : Tm w T A b a S t) (hn : t.p.n ≤ 65536) (hz : t.p.z ≤ 65536) (hX : w.cell? ⟨X, 0, none⟩ = some (tp T)) (i : Int) (h0 : 1 ≤ i) (h1 : i ≤ (t.p.n : Int)) :
    Calls Tryz.prog 68 #[.int .i64 i, .pointer (some ⟨X, 0, none⟩)] w fun e w' => e = .returned (.bool (sl t.p i)) ∧ Below w.heap.size w w' := by
  have C := filled_any h hn hz i h0 h1
  unfold tp at C hX
  clear h
  go_enter Tryz.func68, Tryz.ntmps68
  go_wp2_with fail
  refine C.mono ?_; rintro e w1 ⟨rfl, k1⟩
  have HB : Hid _ := k1
  clear C k1
  go_wp2_with fail
  go_ret
  exact ⟨rfl, HB.out⟩
/-- The closure of the keys. -/
theorem has_clo {No : Nat → Prop} {w : World} {T A b a S hb c X : Nat} {t : TS} {s : H.St} (h : TT No w T A b a S hb c t s) (hc : c ≤ 900000) (hX : w.cell? ⟨X, 0, none⟩ = some (tp T)) (n : Int) (hr : Rng (kn n)) :
    Calls Tryz.prog 67 #[.int .i64 n, .pointer (some ⟨X, 0, none⟩)] w fun e w' => e = .returned (.bool (hs t.p n)) ∧ TT No w' T A b a S hb (c + 1) { t with pr := t.pr + (rdn t.p n : Nat) } s ∧ Keep No w w' := by
  have C := has_any h hc n hr
  unfold tp at C hX
  clear h
  go_enter Tryz.func67, Tryz.ntmps67
  go_wp2_with fail
  refine C.mono ?_; rintro e w1 ⟨rfl, k1⟩
  have HB : Hid _ := k1
  clear C k1
  go_wp2_with fail
  go_ret
  exact ⟨rfl, HB.out⟩
set_option maxRecDepth 20000 in
set_option maxHeartbeats 2000000 in
theorem halve_52 (I : Nat → Nat → World → Prop) (P : Int → Bool) (rd : Int → Nat) (X : Nat) (l0 h0 : Int) (w : World) (hl : 0 ≤ l0) (hlh : l0 ≤ h0) (hh : h0 ≤ (9223372036854775807 : Int)) (hI : I 0 0 w)
    (step : ∀ (m : Int) (r c : Nat) (W : World), l0 < m → m < h0 → c < 64 → I r c W → Calls Tryz.prog 68 #[.int .i64 m, .pointer (some ⟨X, 0, none⟩)] W fun e w' => e = .returned (.bool (P m)) ∧ I (r + rd m) (c + 1) w') :
    Calls Tryz.prog 66 #[.int .i64 l0, .int .i64 h0, .func (.func 68) #[] #[.pointer (some ⟨X, 0, none⟩)]] w fun e w' => e = .returned (.int .i64 (hlv P rd 64 l0 h0).1) ∧ ∃ c, c ≤ 64 ∧ I (hlv P rd 64 l0 h0).2 c w' := by
  obtain ⟨x, R, hx⟩ : ∃ x R, hlv P rd 64 l0 h0 = (x, R) := ⟨_, _, rfl⟩
  rw [hx]
  have HI : Hid (I 0 0 w) := hI
  have HS : Hid (∀ (m : Int) (r c : Nat) (W : World), l0 < m → m < h0 → c < 64 → I r c W → Calls Tryz.prog 68 #[.int .i64 m, .pointer (some ⟨X, 0, none⟩)] W fun e w' => e = .returned (.bool (P m)) ∧ I (r + rd m) (c + 1) w') := step
  have HX : Hid (hlv P rd 64 l0 h0 = (x, R)) := hx
  clear hI step hx
  go_enter Tryz.func66, Tryz.ntmps66
  go_wp2_with fail
  go_loopw [0, 1] (fun lw hw wr => ∃ (f : Nat) (l h : Int) (r c : Nat), lw = .int .i64 l ∧ hw = .int .i64 h ∧ l0 ≤ l ∧ l ≤ h ∧ h ≤ h0 ∧ h - l ≤ 2 ^ f ∧ f + c = 64 ∧ Hid (I r c wr ∧ (hlv P rd f l h).1 = x ∧ (hlv P rd f l h).2 + r = R)) (fun lw hw _ => (intOf hw - intOf lw).toNat)
  case atStart => exact ⟨64, l0, h0, 0, 0, rfl, rfl, by omega, by omega, by omega, by omega, rfl, HI.out, by rw [HX.out], by rw [HX.out]; rfl⟩
  case round =>
    obtain ⟨f, l, h, r, c, rfl, rfl, g1, g2, g3, g4, g5, HR⟩ := hrel
    clear HI
    have hw0 : IntKind.i64.wrap (h - l) = h - l := by rw [IntKind.wrap_i64]; omega
    by_cases q : 1 < h - l
    · cases f with
      | zero => exfalso; simp at g4; omega
      | succ f =>
        have hp : (2 : Int) ^ (f + 1) = 2 * 2 ^ f := by rw [Int.pow_succ]; omega
        have hd : (h - l).tdiv 2 = (h - l) / 2 := by rw [Int.tdiv_eq_ediv_of_nonneg (by omega)]
        have hw1 : IntKind.i64.wrap ((h - l) / 2) = (h - l) / 2 := by rw [IntKind.wrap_i64]; omega
        have hw2 : IntKind.i64.wrap (l + (h - l) / 2) = l + (h - l) / 2 := by rw [IntKind.wrap_i64]; omega
        obtain ⟨m, hm⟩ : ∃ m, l + (h - l) / 2 = m := ⟨_, rfl⟩
        have C := HS.out m r c wr (by omega) (by omega) (by omega) HR.out.1
        have HE : Hid (hlv P rd (f + 1) l h = if P m then ((hlv P rd f m h).1, (hlv P rd f m h).2 + rd m) else ((hlv P rd f l m).1, (hlv P rd f l m).2 + rd m)) := by
          show _ = _
          rw [hlv, if_pos q, hm]
        rw [hm] at hw2
        have HM : Hid (l < m ∧ m < h ∧ h - m ≤ 2 ^ f ∧ m - l ≤ 2 ^ f) := ⟨by omega, by omega, by omega, by omega⟩
        go_wp2_with fail
        refine C.mono ?_; rintro e w1 ⟨rfl, h1⟩
        have H1 : Hid (I (r + rd m) (c + 1) w1) := h1
        clear C h1
        have HP : Hid ((P m = true → (hlv P rd f m h).1 = x ∧ (hlv P rd f m h).2 + (r + rd m) = R) ∧ (P m = false → (hlv P rd f l m).1 = x ∧ (hlv P rd f l m).2 + (r + rd m) = R)) := by
          obtain ⟨_, q1, q2⟩ := HR.out
          rw [HE.out] at q1 q2
          constructor
          · intro e; rw [if_pos e] at q1 q2; exact ⟨q1, by simp only at q2; omega⟩
          · intro e; rw [if_neg (by simp [e])] at q1 q2; exact ⟨q1, by simp only at q2; omega⟩
        clear HE HR
        cases hPm : P m with
        | true =>
          have HQ : Hid _ := HP.out.1 hPm
          clear HP hPm
          go_wp2_with fail
          go_round
          case rel => exact ⟨f, m, h, r + rd m, c + 1, rfl, rfl, by have := HM.out; omega, by have := HM.out; omega, g3, HM.out.2.2.1, by omega, H1.out, HQ.out.1, HQ.out.2⟩
          case measure => have := HM.out; simp [intOf]; omega
        | false =>
          have HQ : Hid _ := HP.out.2 hPm
          clear HP hPm
          go_wp2_with fail
          go_round
          case rel => exact ⟨f, l, m, r + rd m, c + 1, rfl, rfl, g1, by have := HM.out; omega, by have := HM.out; omega, HM.out.2.2.2, by omega, H1.out, HQ.out.1, HQ.out.2⟩
          case measure => have := HM.out; simp [intOf]; omega
    · have HE : Hid (hlv P rd f l h = (l, 0)) := by
        show _ = _
        cases f with
        | zero => rfl
        | succ f => rw [hlv, if_neg q]
      go_wp2_with fail
      go_ret
      obtain ⟨q0, q1, q2⟩ := HR.out
      rw [HE.out] at q1 q2
      simp only at q1 q2
      subst q1
      refine ⟨rfl, c, by omega, ?_⟩
      have : r = R := by omega
      rw [← this]
      exact q0
set_option maxRecDepth 20000 in
set_option maxHeartbeats 2000000 in
theorem halve_51 (I : Nat → Nat → World → Prop) (P : Int → Bool) (rd : Int → Nat) (X : Nat) (l0 h0 : Int) (w : World) (hl : 0 ≤ l0) (hlh : l0 ≤ h0) (hh : h0 ≤ (9223372036854775807 : Int)) (hI : I 0 0 w)
    (step : ∀ (m : Int) (r c : Nat) (W : World), l0 < m → m < h0 → c < 64 → I r c W → Calls Tryz.prog 67 #[.int .i64 m, .pointer (some ⟨X, 0, none⟩)] W fun e w' => e = .returned (.bool (P m)) ∧ I (r + rd m) (c + 1) w') :
    Calls Tryz.prog 66 #[.int .i64 l0, .int .i64 h0, .func (.func 67) #[] #[.pointer (some ⟨X, 0, none⟩)]] w fun e w' => e = .returned (.int .i64 (hlv P rd 64 l0 h0).1) ∧ ∃ c, c ≤ 64 ∧ I (hlv P rd 64 l0 h0).2 c w' := by
  obtain ⟨x, R, hx⟩ : ∃ x R, hlv P rd 64 l0 h0 = (x, R) := ⟨_, _, rfl⟩
  rw [hx]
  have HI : Hid (I 0 0 w) := hI
  have HS : Hid (∀ (m : Int) (r c : Nat) (W : World), l0 < m → m < h0 → c < 64 → I r c W → Calls Tryz.prog 67 #[.int .i64 m, .pointer (some ⟨X, 0, none⟩)] W fun e w' => e = .returned (.bool (P m)) ∧ I (r + rd m) (c + 1) w') := step
  have HX : Hid (hlv P rd 64 l0 h0 = (x, R)) := hx
  clear hI step hx
  go_enter Tryz.func66, Tryz.ntmps66
  go_wp2_with fail
  go_loopw [0, 1] (fun lw hw wr => ∃ (f : Nat) (l h : Int) (r c : Nat), lw = .int .i64 l ∧ hw = .int .i64 h ∧ l0 ≤ l ∧ l ≤ h ∧ h ≤ h0 ∧ h - l ≤ 2 ^ f ∧ f + c = 64 ∧ Hid (I r c wr ∧ (hlv P rd f l h).1 = x ∧ (hlv P rd f l h).2 + r = R)) (fun lw hw _ => (intOf hw - intOf lw).toNat)
  case atStart => exact ⟨64, l0, h0, 0, 0, rfl, rfl, by omega, by omega, by omega, by omega, rfl, HI.out, by rw [HX.out], by rw [HX.out]; rfl⟩
  case round =>
    obtain ⟨f, l, h, r, c, rfl, rfl, g1, g2, g3, g4, g5, HR⟩ := hrel
    clear HI
    have hw0 : IntKind.i64.wrap (h - l) = h - l := by rw [IntKind.wrap_i64]; omega
    by_cases q : 1 < h - l
    · cases f with
      | zero => exfalso; simp at g4; omega
      | succ f =>
        have hp : (2 : Int) ^ (f + 1) = 2 * 2 ^ f := by rw [Int.pow_succ]; omega
        have hd : (h - l).tdiv 2 = (h - l) / 2 := by rw [Int.tdiv_eq_ediv_of_nonneg (by omega)]
        have hw1 : IntKind.i64.wrap ((h - l) / 2) = (h - l) / 2 := by rw [IntKind.wrap_i64]; omega
        have hw2 : IntKind.i64.wrap (l + (h - l) / 2) = l + (h - l) / 2 := by rw [IntKind.wrap_i64]; omega
        obtain ⟨m, hm⟩ : ∃ m, l + (h - l) / 2 = m := ⟨_, rfl⟩
        have C := HS.out m r c wr (by omega) (by omega) (by omega) HR.out.1
        have HE : Hid (hlv P rd (f + 1) l h = if P m then ((hlv P rd f m h).1, (hlv P rd f m h).2 + rd m) else ((hlv P rd f l m).1, (hlv P rd f l m).2 + rd m)) := by
          show _ = _
          rw [hlv, if_pos q, hm]
        rw [hm] at hw2
        have HM : Hid (l < m ∧ m < h ∧ h - m ≤ 2 ^ f ∧ m - l ≤ 2 ^ f) := ⟨by omega, by omega, by omega, by omega⟩
        go_wp2_with fail
        refine C.mono ?_; rintro e w1 ⟨rfl, h1⟩
        have H1 : Hid (I (r + rd m) (c + 1) w1) := h1
        clear C h1
        have HP : Hid ((P m = true → (hlv P rd f m h).1 = x ∧ (hlv P rd f m h).2 + (r + rd m) = R) ∧ (P m = false → (hlv P rd f l m).1 = x ∧ (hlv P rd f l m).2 + (r + rd m) = R)) := by
          obtain ⟨_, q1, q2⟩ := HR.out
          rw [HE.out] at q1 q2
          constructor
          · intro e; rw [if_pos e] at q1 q2; exact ⟨q1, by simp only at q2; omega⟩
          · intro e; rw [if_neg (by simp [e])] at q1 q2; exact ⟨q1, by simp only at q2; omega⟩
        clear HE HR
        cases hPm : P m with
        | true =>
          have HQ : Hid _ := HP.out.1 hPm
          clear HP hPm
          go_wp2_with fail
          go_round
          case rel => exact ⟨f, m, h, r + rd m, c + 1, rfl, rfl, by have := HM.out; omega, by have := HM.out; omega, g3, HM.out.2.2.1, by omega, H1.out, HQ.out.1, HQ.out.2⟩
          case measure => have := HM.out; simp [intOf]; omega
        | false =>
          have HQ : Hid _ := HP.out.2 hPm
          clear HP hPm
          go_wp2_with fail
          go_round
          case rel => exact ⟨f, l, m, r + rd m, c + 1, rfl, rfl, g1, by have := HM.out; omega, by have := HM.out; omega, HM.out.2.2.2, by omega, H1.out, HQ.out.1, HQ.out.2⟩
          case measure => have := HM.out; simp [intOf]; omega
    · have HE : Hid (hlv P rd f l h = (l, 0)) := by
        show _ = _
        cases f with
        | zero => rfl
        | succ f => rw [hlv, if_neg q]
      go_wp2_with fail
      go_ret
      obtain ⟨q0, q1, q2⟩ := HR.out
      rw [HE.out] at q1 q2
      simp only at q1 q2
      subst q1
      refine ⟨rfl, c, by omega, ?_⟩
      have : r = R := by omega
      rw [← this]
      exact q0
end Go.Proofs.YtckgoedlgecokaaGreatDoor

/- The walks of border, on: inArray, behindArray, Len, Is. -/
namespace Go.Proofs.YtckgoedlgecokaaGreatDoor
open Go.RowKit

theorem rng_kn {n : Int} (h0 : 0 ≤ n) (h1 : n ≤ (9223372036854775807 : Int)) : Rng (kn n) := by constructor <;> simp <;> omega
theorem box1 (w : World) (v : Value) (ty : Nat) : Below w.heap.size w (w.alloc (.cells #[v] ty)) ∧ (w.alloc (.cells #[v] ty)).cell? ⟨w.heap.size, 0, none⟩ = some v :=
  ⟨b1 w _, cell_of_row (MapKept.heap_alloc w _).1 0⟩
theorem cell_below {w w' : World} {X : Nat} {v : Value} (hX : w.cell? ⟨X, 0, none⟩ = some v) (hl : X < w.heap.size) (k : Below w.heap.size w w') : w'.cell? ⟨X, 0, none⟩ = some v := by
  rw [World.cell?_of_block (w := w) (k.block X hl)]; exact hX
set_option maxRecDepth 20000 in
set_option maxHeartbeats 1000000 in
theorem inArray_any {w : World} {T A b a S : Nat} {t : TS} (h : Tm w T A b a S t) (ti : TI t.p) (hh : 0 ≤ t.hint ∧ t.hint ≤ (t.p.n : Int)) (hn0 : t.p.n ≠ 0) (hsn : sl t.p t.p.n = false) :
    Calls Tryz.prog 47 #[tp T, .int .i64 (t.p.n : Nat), .int .i64 t.hint] w fun e w' => e = .returned (.int .i64 (inAr t)) ∧ Below w.heap.size w w' := by
  have hle := ti.le
  have hlz := ti.rt.le
  obtain ⟨B0, x0⟩ := box1 w (tp T) 26
  have hx : w.heap.size < (w.alloc (.cells #[tp T] 26)).heap.size := by simp
  obtain ⟨W0, hW0⟩ : ∃ W0, w.alloc (.cells #[tp T] 26) = W0 := ⟨_, rfl⟩
  rw [hW0] at B0 x0 hx
  generalize hX : w.heap.size = X at *
  have h0 : Tm W0 T A b a S t := h.below (by rw [hX]; exact B0)
  have HC : Hid (∀ (i : Int) (W : World), Below W0.heap.size W0 W → 1 ≤ i → i ≤ (t.p.n : Int) → Calls Tryz.prog 68 #[.int .i64 i, .pointer (some ⟨X, 0, none⟩)] W fun e w' => e = .returned (.bool (sl t.p i)) ∧ Below W0.heap.size W0 w') := fun i W q q0 q1 =>
    (slot_clo (h0.below q) hle hlz (cell_below x0 hx q) i q0 q1).mono fun e w' hh => ⟨hh.1, bthen q q.size hh.2⟩
  have HH : Hid (∀ (l u : Int) (W : World), Below W0.heap.size W0 W → 0 ≤ l → l ≤ u → u ≤ (t.p.n : Int) → Calls Tryz.prog 66 #[.int .i64 l, .int .i64 u, .func (.func 68) #[] #[.pointer (some ⟨X, 0, none⟩)]] W fun e w' => e = .returned (.int .i64 (hlv (sl t.p) (fun _ => 0) 64 l u).1) ∧ Below W0.heap.size W0 w') := fun l u W q q0 q1 q2 =>
    (halve_52 (fun _ _ W => Below W0.heap.size W0 W) (sl t.p) (fun _ => 0) X l u W q0 q1 (by omega) q (fun m r c W' g0 g1 _ g3 => HC.out m W' g3 (by omega) (by omega))).mono fun e w' hh => ⟨hh.1, hh.2.choose_spec.2⟩
  have HB : Hid (∀ W, Below W0.heap.size W0 W → Below X w W) := fun W q => by rw [← hX] at B0 ⊢; exact bthen B0 B0.size q
  unfold inAr
  unfold tp at hW0 ⊢
  clear h h0 B0 x0 hx
  obtain ⟨hi0, hi1⟩ := hh
  by_cases e1 : t.hint > 0
  · have e1' : (0 : Int) < t.hint := e1
    have C1 := HC.out t.hint W0 (Below.refl _ _) (by omega) hi1
    cases hs1 : sl t.p t.hint with
    | false =>
      rw [if_pos ⟨e1, rfl⟩]
      rw [hs1] at C1
      generalize t.hint = hn at *
      go_enter Tryz.func47, Tryz.ntmps47
      go_wp2_with fail
      refine C1.mono ?_; rintro e W1 ⟨rfl, k1⟩
      have C2 := HH.out 0 hn W1 k1 (by omega) (by omega) hi1
      clear C1 k1
      go_wp2_with fail
      refine C2.mono ?_; rintro e W2 ⟨rfl, k2⟩
      have HK : Hid _ := k2
      clear C2 k2
      go_wp2_with fail
      go_ret
      exact ⟨rfl, HB.out _ HK.out⟩
    | true =>
      have hlt : t.hint < t.p.n := by
        by_cases r : t.hint = t.p.n
        · rw [r, hsn] at hs1; cases hs1
        · omega
      rw [if_neg (by simp)]
      rw [hs1] at C1
      have HC2 : Hid (∀ W, Below W0.heap.size W0 W → _) := fun W q => HC.out (t.hint + 1) W q (by omega) (by omega)
      have hw : IntKind.i64.wrap (t.hint + 1) = t.hint + 1 := by rw [IntKind.wrap_i64]; omega
      generalize t.hint = hn at *
      cases hs2 : sl t.p (hn + 1) with
      | false =>
        rw [if_pos rfl]
        rw [hs2] at HC2
        go_enter Tryz.func47, Tryz.ntmps47
        go_wp2_with fail
        refine C1.mono ?_; rintro e W1 ⟨rfl, k1⟩
        have C2 := HC2.out W1 k1
        clear C1 k1
        go_wp2_with fail
        refine C2.mono ?_; rintro e W2 ⟨rfl, k2⟩
        have HK : Hid _ := k2
        clear C2 k2
        go_wp2_with fail
        go_ret
        exact ⟨rfl, HB.out _ HK.out⟩
      | true =>
        rw [if_neg (by simp)]
        rw [hs2] at HC2
        go_enter Tryz.func47, Tryz.ntmps47
        go_wp2_with fail
        refine C1.mono ?_; rintro e W1 ⟨rfl, k1⟩
        have C2 := HC2.out W1 k1
        clear C1 k1
        go_wp2_with fail
        refine C2.mono ?_; rintro e W2 ⟨rfl, k2⟩
        have C3 := HH.out hn t.p.n W2 k2 hi0 hi1 (Int.le_refl _)
        clear C2 k2
        go_wp2_with fail
        refine C3.mono ?_; rintro e W3 ⟨rfl, k3⟩
        have HK : Hid _ := k3
        clear C3 k3
        go_wp2_with fail
        go_ret
        exact ⟨rfl, HB.out _ HK.out⟩
  · have e0 : t.hint = 0 := by omega
    have HC2 : Hid (∀ W, Below W0.heap.size W0 W → _) := fun W q => HC.out 1 W q (by omega) (by omega)
    rw [if_neg (fun q => e1 q.1), e0]
    show Calls _ _ _ _ fun e w' => e = .returned (.int .i64 (if sl t.p 1 = false then 0 else _)) ∧ _
    cases hs2 : sl t.p 1 with
    | false =>
      rw [if_pos rfl]
      rw [hs2] at HC2
      have C2 := HC2.out W0 (Below.refl _ _)
      go_enter Tryz.func47, Tryz.ntmps47
      go_wp2_with fail
      refine C2.mono ?_; rintro e W2 ⟨rfl, k2⟩
      have HK : Hid _ := k2
      clear C2 k2
      go_wp2_with fail
      go_ret
      exact ⟨rfl, HB.out _ HK.out⟩
    | true =>
      rw [if_neg (by simp)]
      rw [hs2] at HC2
      have C2 := HC2.out W0 (Below.refl _ _)
      go_enter Tryz.func47, Tryz.ntmps47
      go_wp2_with fail
      refine C2.mono ?_; rintro e W2 ⟨rfl, k2⟩
      have C3 := HH.out 0 t.p.n W2 k2 (by omega) (by omega) (Int.le_refl _)
      clear C2 k2
      go_wp2_with fail
      refine C3.mono ?_; rintro e W3 ⟨rfl, k3⟩
      have HK : Hid _ := k3
      clear C3 k3
      go_wp2_with fail
      go_ret
      exact ⟨rfl, HB.out _ HK.out⟩
end Go.Proofs.YtckgoedlgecokaaGreatDoor

/- The walk of behindArray. -/
namespace Go.Proofs.YtckgoedlgecokaaGreatDoor
open Go.RowKit

/-- A table as it is asked key by key: r nodes read, c calls. -/
structure Ak (No No2 : Nat → Prop) (w : World) (X T A b a S hb c : Nat) (t : TS) (s : H.St) (r k : Nat) (W : World) : Prop where
  tt : TT No2 W T A b a S hb (c + k) { t with pr := t.pr + (r : Nat) } s
  keep : Keep No w W
  x : W.cell? ⟨X, 0, none⟩ = some (tp T)
  lt : X < W.heap.size
theorem Ak.ask {No No2 : Nat → Prop} {w : World} {X T A b a S hb c : Nat} {t : TS} {s : H.St} {r k : Nat} {W : World} (h : Ak No No2 w X T A b a S hb c t s r k W) (hn : ∀ g, No g → No2 g) (hX : No2 X) (hc : c ≤ 700000) (hk : k ≤ 1000) (n : Int) (hr : Rng (kn n)) :
    Calls Tryz.prog 64 #[tp T, .int .i64 n] W fun e w' => e = .returned (.bool (hs t.p n)) ∧ Ak No No2 w X T A b a S hb c t s (r + rdn t.p n) (k + 1) w' :=
  (has_any h.tt (by omega) n hr).mono fun e w' hh => ⟨hh.1, by
    have e1 : (({ t with pr := t.pr + (r : Nat) } : TS).pr + ((rdn ({ t with pr := t.pr + (r : Nat) } : TS).p n : Nat) : Int)) = t.pr + ((r + rdn t.p n : Nat) : Int) := by simp; omega
    have h1 := hh.2.1
    rw [e1] at h1
    exact h1, h.keep.trans (hh.2.2.sub hn), by rw [World.cell?_of_block (w := W) (hh.2.2.block X h.lt hX)]; exact h.x, Nat.lt_of_lt_of_le h.lt hh.2.2.size⟩
theorem Ak.clo {No No2 : Nat → Prop} {w : World} {X T A b a S hb c : Nat} {t : TS} {s : H.St} {r k : Nat} {W : World} (h : Ak No No2 w X T A b a S hb c t s r k W) (hn : ∀ g, No g → No2 g) (hX : No2 X) (hc : c ≤ 700000) (hk : k ≤ 1000) (n : Int) (hr : Rng (kn n)) :
    Calls Tryz.prog 67 #[.int .i64 n, .pointer (some ⟨X, 0, none⟩)] W fun e w' => e = .returned (.bool (hs t.p n)) ∧ Ak No No2 w X T A b a S hb c t s (r + rdn t.p n) (k + 1) w' :=
  (has_clo h.tt (by omega) h.x n hr).mono fun e w' hh => ⟨hh.1, by
    have e1 : (({ t with pr := t.pr + (r : Nat) } : TS).pr + ((rdn ({ t with pr := t.pr + (r : Nat) } : TS).p n : Nat) : Int)) = t.pr + ((r + rdn t.p n : Nat) : Int) := by simp; omega
    have h1 := hh.2.1
    rw [e1] at h1
    exact h1, h.keep.trans (hh.2.2.sub hn), by rw [World.cell?_of_block (w := W) (hh.2.2.block X h.lt hX)]; exact h.x, Nat.lt_of_lt_of_le h.lt hh.2.2.size⟩
set_option maxRecDepth 20000 in
set_option maxHeartbeats 1000000 in
theorem behind_any {No : Nat → Prop} {w : World} {T A b a S hb c : Nat} {t : TS} {s : H.St} (h : TT No w T A b a S hb c t s) (hc : c ≤ 700000) :
    Calls Tryz.prog 46 #[tp T, .int .i64 (t.p.n : Nat)] w fun e w' => e = .returned (.int .i64 (beh t.p).1) ∧ TT No w' T A b a S hb (c + 130) { t with pr := t.pr + ((beh t.p).2 : Nat) } s ∧ Keep No w w' := by
  have hle := h.ti.le
  obtain ⟨B0, x0⟩ := box1 w (tp T) 26
  have hx : w.heap.size < (w.alloc (.cells #[tp T] 26)).heap.size := by simp
  have h0 := h.news B0
  obtain ⟨No2, hNo2⟩ : ∃ No2, (fun g => No g ∨ (w.heap.size ≤ g ∧ g < (w.alloc (.cells #[tp T] 26)).heap.size)) = No2 := ⟨_, rfl⟩
  rw [hNo2] at h0
  have hn : ∀ g, No g → No2 g := fun g q => by rw [← hNo2]; exact .inl q
  have hX2 : No2 w.heap.size := by rw [← hNo2]; exact .inr ⟨Nat.le_refl _, hx⟩
  obtain ⟨W0, hW0⟩ : ∃ W0, w.alloc (.cells #[tp T] 26) = W0 := ⟨_, rfl⟩
  rw [hW0] at B0 x0 hx h0
  have K0 : Keep No w W0 := Keep.of B0
  clear hNo2
  generalize hX : w.heap.size = X at *
  have A0 : Ak No No2 w X T A b a S hb c t s 0 0 W0 := ⟨by simpa using h0, K0, x0, hx⟩
  have HA : Hid (∀ (r k : Nat) (W : World) (n : Int), k ≤ 1000 → 0 ≤ n → n ≤ (9223372036854775807 : Int) → Ak No No2 w X T A b a S hb c t s r k W → Calls Tryz.prog 64 #[.pointer (some ⟨T, 0, none⟩), .int .i64 n] W fun e w' => e = .returned (.bool (hs t.p n)) ∧ Ak No No2 w X T A b a S hb c t s (r + rdn t.p n) (k + 1) w') := fun r k W n hk g0 g1 q => q.ask hn hX2 hc hk n (rng_kn g0 g1)
  have HH : Hid (∀ (l u : Int) (r k : Nat) (W : World), k ≤ 100 → 0 ≤ l → l ≤ u → u ≤ (9223372036854775807 : Int) → Ak No No2 w X T A b a S hb c t s r k W → Calls Tryz.prog 66 #[.int .i64 l, .int .i64 u, .func (.func 67) #[] #[.pointer (some ⟨X, 0, none⟩)]] W fun e w' => e = .returned (.int .i64 (hlv (hs t.p) (rdn t.p) 64 l u).1) ∧ ∃ k', k' ≤ k + 64 ∧ Ak No No2 w X T A b a S hb c t s (r + (hlv (hs t.p) (rdn t.p) 64 l u).2) k' w') := fun l u r k W hk q0 q1 q2 q =>
    (halve_51 (fun r' k' W' => Ak No No2 w X T A b a S hb c t s (r + r') (k + k') W') (hs t.p) (rdn t.p) X l u W q0 q1 q2 q (fun m r' c' W' g0 g1 g2 g3 => (g3.clo hn hX2 hc (by omega) m (rng_kn (by omega) (by omega))).mono fun e w' hh => ⟨hh.1, by have := hh.2; rw [Nat.add_assoc, Nat.add_assoc] at this; exact this⟩)).mono fun e w' hh => ⟨hh.1, by obtain ⟨k', h1, h2⟩ := hh.2; exact ⟨k + k', by omega, h2⟩⟩
  have HD : Hid (∀ (r k : Nat) (W : World), k ≤ 130 → Ak No No2 w X T A b a S hb c t s r k W → TT No W T A b a S hb (c + 130) { t with pr := t.pr + (r : Nat) } s ∧ Keep No w W) := fun r k W hk q => ⟨(q.tt.sub hn).more (by omega), q.keep⟩
  have C1 := HA.out 0 0 W0 ((t.p.n : Int) + 1) (by omega) (by omega) (by omega) A0
  have hw1 : IntKind.i64.wrap ((t.p.n : Int) + 1) = (t.p.n : Int) + 1 := by rw [IntKind.wrap_i64]; omega
  have HX0 : Hid (∀ (r k : Nat) (W : World), Ak No No2 w X T A b a S hb c t s r k W → W.cell? ⟨X, 0, none⟩ = some (.pointer (some ⟨T, 0, none⟩))) := fun r k W q => q.x
  have x1 := HX0.out _ _ _ A0
  unfold beh
  unfold tp at hW0 ⊢
  clear h h0 B0 K0 x0 hx A0
  cases e1 : hs t.p ((t.p.n : Int) + 1) with
  | false =>
    rw [if_pos rfl]
    rw [e1] at C1
    go_enter Tryz.func46, Tryz.ntmps46
    go_wp2_with fail
    refine C1.mono ?_; rintro e W1 ⟨rfl, k1⟩
    have HK : Hid _ := k1
    clear C1 k1
    go_wp2_with fail
    go_ret
    refine ⟨rfl, ?_⟩
    have := HD.out _ _ _ (by omega) HK.out
    rw [Nat.zero_add] at this
    exact this
  | true =>
    rw [if_neg (by simp)]
    rw [e1] at C1
    have hw2 : IntKind.i64.wrap (2 * ((t.p.n : Int) + 1)) = 2 * ((t.p.n : Int) + 1) := by rw [IntKind.wrap_i64]; omega
    have HTw : Hid (∀ (n : Int) (W : World), 0 ≤ n → n ≤ (9223372036854775807 : Int) → Calls Tryz.prog 65 #[.int .i64 n] W fun e w' => e = .returned (.int .i64 (tw n)) ∧ w' = W) := fun n W g0 g1 => twice_any n W g0 g1
    have C2 := fun W => HTw.out ((t.p.n : Int) + 1) W (by omega) (by omega)
    have et : tw ((t.p.n : Int) + 1) = 2 * ((t.p.n : Int) + 1) := by unfold tw; rw [if_neg (by omega)]
    rw [et] at C2
    obtain ⟨L, U, R, hD⟩ : ∃ L U R, dbl (hs t.p) (rdn t.p) 64 ((t.p.n : Int) + 1) (2 * ((t.p.n : Int) + 1)) = (L, U, R) := ⟨_, _, _, rfl⟩
    have HDb : Hid (dbl (hs t.p) (rdn t.p) 64 ((t.p.n : Int) + 1) (2 * ((t.p.n : Int) + 1)) = (L, U, R)) := hD
    rw [hD]
    show Calls _ _ _ _ fun e w' => e = .returned (.int .i64 (hlv (hs t.p) (rdn t.p) 64 L U).1) ∧ TT No w' T A b a S hb (c + 130) { t with pr := t.pr + ((rdn t.p ((t.p.n : Int) + 1) + R + (hlv (hs t.p) (rdn t.p) 64 L U).2 : Nat) : Int) } s ∧ Keep No w w'
    clear hD
    have hn1 : 1 ≤ (t.p.n : Int) + 1 ∧ (t.p.n : Int) + 1 ≤ 65537 := ⟨by omega, by omega⟩
    obtain ⟨r1, hr1⟩ : ∃ r1, rdn t.p ((t.p.n : Int) + 1) = r1 := ⟨_, rfl⟩
    rw [hr1] at C1 ⊢
    go_enter Tryz.func46, Tryz.ntmps46
    go_wp2_with fail
    refine C1.mono ?_; rintro e W1 ⟨rfl, k1⟩
    rw [Nat.zero_add, Nat.zero_add] at k1
    have HK1 : Hid _ := k1
    clear C1 k1
    go_wp2_with fail
    refine (C2 W1).mono ?_; rintro e W2 ⟨rfl, hw⟩; rw [hw]; clear hw C2 et
    generalize (t.p.n : Int) + 1 = n1 at *
    clear x1 hw1 hw2
    go_wp2_with fail
    go_loopw [5, 6] (fun lw hw wr => ∃ (f : Nat) (l u : Int) (r k : Nat), lw = .int .i64 l ∧ hw = .int .i64 u ∧ 1 ≤ l ∧ l < u ∧ u ≤ (9223372036854775807 : Int) ∧ (u = (9223372036854775807 : Int) ∨ (9223372036854775807 : Int) < u * 2 ^ f) ∧ f + k = 64 ∧ 1 ≤ k ∧ Hid (Ak No No2 w X T A b a S hb c t s (r1 + r) k wr ∧ (dbl (hs t.p) (rdn t.p) (f + 1) l u).1 = L ∧ (dbl (hs t.p) (rdn t.p) (f + 1) l u).2.1 = U ∧ (dbl (hs t.p) (rdn t.p) (f + 1) l u).2.2 + r = R)) (fun _ hw _ => (9223372036854775807 - intOf hw).toNat)
    case atStart =>
      refine ⟨63, n1, 2 * n1, 0, 1, rfl, rfl, hn1.1, by omega, by omega, .inr (by omega), rfl, Nat.le_refl _, HK1.out, ?_, ?_, ?_⟩ <;> rw [HDb.out]
      rfl
    case round =>
      obtain ⟨f, l, u, r, k, rfl, rfl, g1, g2, g3, g4, g5, g6, HR⟩ := hrel
      clear HK1 HDb hn1
      have x1 := HX0.out _ _ _ HR.out.1
      have C1 := HA.out _ _ _ u (by omega) (by omega) g3 HR.out.1
      have HE : Hid (dbl (hs t.p) (rdn t.p) (f + 1) l u = if hs t.p u then (if u = (9223372036854775807 : Int) then ((9223372036854775807 : Int), (9223372036854775807 : Int), rdn t.p u) else ((dbl (hs t.p) (rdn t.p) f u (tw u)).1, (dbl (hs t.p) (rdn t.p) f u (tw u)).2.1, (dbl (hs t.p) (rdn t.p) f u (tw u)).2.2 + rdn t.p u)) else (l, u, rdn t.p u)) := by
        show _ = _
        rw [dbl]
      cases e2 : hs t.p u with
      | true =>
        rw [e2] at C1 HE
        by_cases q : u = (9223372036854775807 : Int)
        · have HE2 : Hid (L = (9223372036854775807 : Int) ∧ U = (9223372036854775807 : Int) ∧ rdn t.p u + r = R) := by
            obtain ⟨_, q1, q2, q3⟩ := HR.out
            rw [HE.out, if_pos rfl, if_pos q] at q1 q2 q3
            exact ⟨q1.symm, q2.symm, q3⟩
          clear HE
          subst q
          go_wp2_with fail
          refine C1.mono ?_; rintro e W3 ⟨rfl, k3⟩
          have HK3 : Hid _ := k3
          clear C1 k3 HR
          go_wp2_with fail
          go_ret
          obtain ⟨q1, q2, q3⟩ := HE2.out
          have eh : hlv (hs t.p) (rdn t.p) 64 L U = ((9223372036854775807 : Int), 0) := by rw [q1, q2, hlv, if_neg (by omega)]
          rw [eh]
          refine ⟨rfl, ?_⟩
          have e3 : r1 + R + 0 = r1 + r + rdn t.p (9223372036854775807 : Int) := by omega
          show TT No _ T A b a S hb (c + 130) { t with pr := t.pr + ((r1 + R + 0 : Nat) : Int) } s ∧ _
          rw [e3]
          exact HD.out _ _ _ (by omega) HK3.out
        · obtain ⟨f', hf', t1, t2, t3⟩ := tw_ok (f := f) (h := u) (by omega) q g3 (by omega)
          have HE2 : Hid ((dbl (hs t.p) (rdn t.p) f u (tw u)).1 = L ∧ (dbl (hs t.p) (rdn t.p) f u (tw u)).2.1 = U ∧ (dbl (hs t.p) (rdn t.p) f u (tw u)).2.2 + (r + rdn t.p u) = R) := by
            obtain ⟨_, q1, q2, q3⟩ := HR.out
            rw [HE.out, if_pos rfl, if_neg q] at q1 q2 q3
            exact ⟨q1, q2, by simp only at q3; omega⟩
          subst hf'
          clear HE
          have C3 := fun W => HTw.out u W (by omega) g3
          generalize tw u = u2 at *
          go_wp2_with fail
          refine C1.mono ?_; rintro e W3 ⟨rfl, k3⟩
          rw [Nat.add_assoc] at k3
          have HK3 : Hid _ := k3
          clear C1 k3 HR
          go_wp2_with fail
          refine (C3 W3).mono ?_; rintro e W4 ⟨rfl, hw⟩; rw [hw]; clear hw C3
          go_wp2_with fail
          go_round
          case rel => exact ⟨f', u, u2, r + rdn t.p u, k + 1, rfl, rfl, by omega, t1, t2, t3, by omega, by omega, HK3.out, HE2.out.1, HE2.out.2.1, HE2.out.2.2⟩
          case measure => simp [intOf]; omega
      | false =>
        rw [e2] at C1 HE
        have HE2 : Hid (l = L ∧ u = U ∧ rdn t.p u + r = R) := by
          obtain ⟨_, q1, q2, q3⟩ := HR.out
          rw [HE.out, if_neg (by simp)] at q1 q2 q3
          exact ⟨q1, q2, q3⟩
        clear HE
        go_wp2_with fail
        refine C1.mono ?_; rintro e W3 ⟨rfl, k3⟩
        have C2 := HH.out l u _ _ W3 (by omega) (by omega) (by omega) g3 k3
        clear C1 k3 HR
        go_wp2_with fail
        refine C2.mono ?_; rintro e W4 ⟨rfl, k4, hk4, q4⟩
        have HK4 : Hid _ := q4
        clear C2 q4
        go_wp2_with fail
        go_ret
        obtain ⟨q1, q2, q3⟩ := HE2.out
        subst q1 q2
        refine ⟨rfl, ?_⟩
        have e3 : r1 + R + (hlv (hs t.p) (rdn t.p) 64 l u).2 = r1 + r + rdn t.p u + (hlv (hs t.p) (rdn t.p) 64 l u).2 := by omega
        rw [e3]
        exact HD.out _ _ _ (by omega) HK4.out
end Go.Proofs.YtckgoedlgecokaaGreatDoor

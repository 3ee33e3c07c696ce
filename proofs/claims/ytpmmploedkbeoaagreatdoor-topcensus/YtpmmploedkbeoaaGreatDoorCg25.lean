/- What is true all along the script; what a pair's replies say (no program in it). -/
import Derived.Test.YtpmmploedkbeoaaGreatDoorCg24
import Derived.BigQuiet
namespace Go.Proofs.YtpmmploedkbeoaaGreatDoor
open Go.RowKit

theorem TB.pr {t : TS} {s : H.St} {L : Int} (h : TB t s L) (x : Int) : TB { t with pr := x } s L := ⟨h.b1, h.b2, h.ne, h.live⟩
theorem Pi.pr {t : TS} {s : H.St} {m : Nat} (h : Pi t s m) (x : Int) : Pi { t with pr := x } s m := ⟨h.tb.pr x, h.lm, h.sm.n, h.sm.z, h.sm.pr⟩
theorem Ini.pi {t : TS} {s : H.St} (h : Ini t s) : Pi t s 0 := by
  refine ⟨h.tb, h.lm, ?_, ?_, ?_⟩
  · rw [h.p]; exact Nat.zero_le _
  · rw [h.p]; exact Nat.zero_le _
  · rw [h.p]; exact Nat.le_refl _
theorem Pi.t2 {t : TS} {s : H.St} {m : Nat} (h : Pi t s m) (k : V) : Pi (t2F t k) s m := by
  unfold t2F; split
  · exact h.pr _
  · exact h
/-- One operation more. -/
theorem pi_step {P : Nat → V × V} {j : Nat} {t : TS} {s : H.St} (h : Pi t s ((j + 2) / 5)) (hp : 0 ≤ t.pr ∧ t.pr ≤ 65536 * (j : Int)) (hj : j ≤ 700) (ti : TI t.p) (iv : H.Inv 0 s) (hr : ∀ q, Rng (P q).1)
    (ti' : TI (opF (kdS j) (fsS P j) t s).2.1.p) : Pi (opF (kdS j) (fsS P j) t s).2.1 (opF (kdS j) (fsS P j) t s).2.2 ((j + 1 + 2) / 5) ∧ 0 ≤ (opF (kdS j) (fsS P j) t s).2.1.pr ∧ (opF (kdS j) (fsS P j) t s).2.1.pr ≤ 65536 * ((j + 1 : Nat) : Int) := by
  obtain ⟨i, r, hr5, rfl⟩ : ∃ i r, r < 5 ∧ j = 5 * i + r := ⟨j / 5, j % 5, by omega, by omega⟩
  obtain rfl | rfl | rfl | rfl | rfl : r = 0 ∨ r = 1 ∨ r = 2 ∨ r = 3 ∨ r = 4 := by omega
  · rw [Nat.add_zero, kd0, op12]
    exact ⟨h.more (by omega), hp.1, by show t.pr ≤ _; omega⟩
  · rw [kd1, op8]
    refine ⟨(h.t2 _).more (by omega), ?_⟩
    show 0 ≤ (t2F t _).pr ∧ (t2F t _).pr ≤ _
    have := prd_le ti (fsS P (5 * i + 1) 1)
    unfold t2F; split
    · show 0 ≤ t.pr + _ ∧ t.pr + _ ≤ _; omega
    · omega
  · have e9 : opF (kdS (5 * i + 2)) (fsS P (5 * i + 2)) t s = if kn1 1 (fsS P (5 * i + 2) 1) && kn1 1 (fsS P (5 * i + 2) 2) then (([], (tset t s (fsS P (5 * i + 2) 1) (fsS P (5 * i + 2) 2)).2.2), (tset t s (fsS P (5 * i + 2) 1) (fsS P (5 * i + 2) 2)).1, (tset t s (fsS P (5 * i + 2) 1) (fsS P (5 * i + 2) 2)).2.1) else (([], 2), t, s) := by
      rw [kd2]; unfold opF; rw [if_neg (by decide), if_pos rfl]
    rw [e9] at ti' ⊢
    by_cases hk : (kn1 1 (fsS P (5 * i + 2) 1) && kn1 1 (fsS P (5 * i + 2) 2)) = true
    · rw [if_pos hk] at ti' ⊢
      obtain ⟨r, e1, e2, _⟩ := set_reads (s := s) (k := fsS P (5 * i + 2) 1) (v := fsS P (5 * i + 2) 2) ti
      have hz := ti.rt.le
      refine ⟨(h.set (by omega) ti iv (by rw [fs1 P i 2 (by omega)]; exact hr i) ti').more (by omega), ?_⟩
      show 0 ≤ (tset _ _ _ _).1.pr ∧ (tset _ _ _ _).1.pr ≤ _
      rw [e1]; omega
    · rw [if_neg hk]
      exact ⟨h.more (by omega), hp.1, by show t.pr ≤ _; omega⟩
  · rw [kd3, op12]
    exact ⟨h.more (by omega), hp.1, by show t.pr ≤ _; omega⟩
  · rw [kd4, op13]
    exact ⟨h.more (by omega), hp.1, by show t.pr ≤ _; omega⟩
theorem pi_all {P : Nat → V × V} {t0 : TS} {s0 : H.St} (h0 : Ini t0 s0) (hr : ∀ q, Rng (P q).1) : ∀ i : Nat, i ≤ 700 → (∀ j, j ≤ i → TI (stA kdS (fsS P) t0 s0 j).1.p ∧ H.Inv 0 (stA kdS (fsS P) t0 s0 j).2) →
    Pi (stA kdS (fsS P) t0 s0 i).1 (stA kdS (fsS P) t0 s0 i).2 ((i + 2) / 5) ∧ 0 ≤ (stA kdS (fsS P) t0 s0 i).1.pr ∧ (stA kdS (fsS P) t0 s0 i).1.pr ≤ 65536 * (i : Int)
  | 0, _, _ => ⟨h0.pi.more (Nat.zero_le _), by show 0 ≤ t0.pr; rw [h0.r]; decide, by show t0.pr ≤ _; rw [h0.r]; decide⟩
  | i + 1, hi, hT => by
    obtain ⟨q1, q2⟩ := pi_all h0 hr i (by omega) (fun j hj => hT j (by omega))
    exact pi_step q1 q2 (by omega) (hT i (by omega)).1 (hT i (by omega)).2 hr (hT (i + 1) (by omega)).1
/-- Play's premise. -/
theorem wl_all {P : Nat → V × V} {t0 : TS} {s0 : H.St} (h0 : Ini t0 s0) (hr : ∀ q, Rng (P q).1) {i : Nat} (hi : i ≤ 700) (hT : ∀ j, j ≤ i → TI (stA kdS (fsS P) t0 s0 j).1.p ∧ H.Inv 0 (stA kdS (fsS P) t0 s0 j).2) : (wl (stA kdS (fsS P) t0 s0 i).1.p).length ≤ 500 := by
  rw [wl_len]
  have := (pi_all h0 hr i hi hT).1.sm.pr
  omega
/-- A pair, ready for the laws: before it t, s. -/
structure Rd (t : TS) (s : H.St) (k v : V) : Prop where
  ti : TI t.p
  tj : TI (t3F t s k v).1.p
  iv : H.Inv 0 s
  pi : Pi t s 130
  pj : Pi (t3F t s k v).1 (t3F t s k v).2 130
  p0 : 0 ≤ t.pr ∧ t.pr ≤ 100000000
  hr : Rng k
theorem rd_at {P : Nat → V × V} {t0 : TS} {s0 : H.St} (h0 : Ini t0 s0) (hr : ∀ q, Rng (P q).1) {n i : Nat} (hn : n ≤ 120) (hi : i < n) (hT : ∀ j, j ≤ 5 * n → TI (stA kdS (fsS P) t0 s0 j).1.p ∧ H.Inv 0 (stA kdS (fsS P) t0 s0 j).2) :
    Rd (stA kdS (fsS P) t0 s0 (5 * i)).1 (stA kdS (fsS P) t0 s0 (5 * i)).2 (P i).1 (P i).2 := by
  have h5 := p5_of P t0 s0 i
  have q := pi_all h0 hr (5 * i) (by omega) (fun j hj => hT j (by omega))
  have q' := pi_all h0 hr (5 * (i + 1)) (by omega) (fun j hj => hT j (by omega))
  have t' := (hT (5 * (i + 1)) (by omega)).1
  rw [h5.a5] at q' t'
  exact ⟨(hT (5 * i) (by omega)).1, t', (hT (5 * i) (by omega)).2, q.1.more (by omega), q'.1.more (by omega), ⟨q.2.1, by have := q.2.2; omega⟩, hr i⟩
theorem Rd.t2 {t : TS} {s : H.St} {k v : V} (h : Rd t s k v) : TI (t2F t k).p ∧ Pi (t2F t k) s 130 := ⟨by rw [t2F_p]; exact h.ti, h.pi.t2 k⟩
theorem kn1_fm {n : Int} {v : V} (h : kn1 n v = true) : fm v = true := by
  unfold kn1 at h
  rw [Bool.and_eq_true] at h
  exact h.1
/-- What a Store answers. -/
theorem Rd.err {t : TS} {s : H.St} {k v : V} (h : Rd t s k v) : errF t s k v = 0 ∨ errF t s k v = 2 ∨ errF t s k v = 9 := by
  unfold errF
  split
  · rw [h.t2.2.err h.t2.1 h.iv h.hr]
    split
    · exact .inr (.inl rfl)
    · split
      · exact .inr (.inr rfl)
      · exact .inl rfl
  · exact .inr (.inl rfl)
theorem err0 {t : TS} {s : H.St} {k v : V} (h : errF t s k v = 0) : (kn1 1 k && kn1 1 v) = true ∧ (tset (t2F t k) s k v).2.2 = 0 := by
  unfold errF at h
  by_cases q : (kn1 1 k && kn1 1 v) = true
  · rw [if_pos q] at h; exact ⟨q, h⟩
  · rw [if_neg q] at h; cases h
/-- Sizes change at a Store of a new key alone, and then they fit. -/
theorem Rd.sizes {t : TS} {s : H.St} {k v : V} (h : Rd t s k v) (hne : ¬ ((t3F t s k v).1.p.n = t.p.n ∧ (t3F t s k v).1.p.z = t.p.z)) :
    errF t s k v = 0 ∧ gotF t k = ([nil], 0) ∧ v.1 ≠ 0 ∧ Fits (pres (t3F t s k v).1.p) (t3F t s k v).1.p.n (t3F t s k v).1.p.z := by
  by_cases q : (kn1 1 k && kn1 1 v) = true
  · have e3 : t3F t s k v = ((tset (t2F t k) s k v).1, (tset (t2F t k) s k v).2.1) := by unfold t3F; rw [if_pos q]
    have eE : errF t s k v = (tset (t2F t k) s k v).2.2 := by unfold errF; rw [if_pos q]
    have tj := h.tj
    rw [e3] at hne tj ⊢
    rw [eE]
    have hk : kn1 1 k = true := by rw [Bool.and_eq_true] at q; exact q.1
    obtain ⟨z1, z2, z3, z4⟩ := Pi.sizes (t := t2F t k) (s := s) (v := v) h.t2.1 h.hr tj (by rw [t2F_p]; exact hne)
    exact ⟨z1, by unfold gotF; rw [if_pos hk]; rw [t2F_p] at z2; rw [z2], z3, z4⟩
  · have e3 : t3F t s k v = (t2F t k, s) := by unfold t3F; rw [if_neg q]
    rw [e3] at hne
    exact absurd ⟨by rw [t2F_p], by rw [t2F_p]⟩ hne
theorem Rd.some {t : TS} {s : H.St} {k v : V} (h : Rd t s k v) (he : errF t s k v = 0) (hv : v.1 ≠ 0) : (t3F t s k v).1.p.n + (t3F t s k v).1.p.z ≠ 0 := by
  obtain ⟨q, e0⟩ := err0 he
  have e3 : t3F t s k v = ((tset (t2F t k) s k v).1, (tset (t2F t k) s k v).2.1) := by unfold t3F; rw [if_pos q]
  have tj := h.tj
  rw [e3] at tj ⊢
  exact set_some h.t2.1 h.hr tj e0 hv
/-- What is read. -/
theorem Rd.reads {t : TS} {s : H.St} {k v : V} (h : Rd t s k v) : ∃ r : Nat, (t3F t s k v).1.pr = t.pr + (r : Nat) ∧ r ≤ 2 * t.p.z ∧ (k.1 = 2 → 1 ≤ k.2.1 → k.2.1 ≤ (t.p.n : Int) → r = 0) := by
  have h2 : ∃ r : Nat, (t2F t k).pr = t.pr + (r : Nat) ∧ r ≤ t.p.z ∧ (inA t.p.n k → r = 0) ∧ (kn1 1 k = false → r = 0) := by
    unfold t2F
    by_cases q : kn1 1 k = true
    · rw [if_pos q]; exact ⟨_, rfl, (prd_rd2 h.ti k).1, (prd_rd2 h.ti k).2, fun z => by rw [q] at z; cases z⟩
    · rw [if_neg q]; exact ⟨0, by simp, Nat.zero_le _, fun _ => rfl, fun _ => rfl⟩
  obtain ⟨r, e1, e2, e3, e4⟩ := h2
  have hA : kn1 1 k = true → k.1 = 2 → 1 ≤ k.2.1 → k.2.1 ≤ (t.p.n : Int) → inA t.p.n k := fun q a b c => by
    refine ⟨a, ?_, b, c⟩
    have f := kn1_fm q
    unfold fm inF at f
    rw [if_neg (by omega), if_neg (by omega), if_pos a] at f
    have l0 : k.2.2.toList = [] := by simpa using f
    exact ByteArray.ext (Array.toList_inj.1 (by rw [ByteArray.toList_eq] at l0; simpa using l0))
  by_cases q : (kn1 1 k && kn1 1 v) = true
  · have hk : kn1 1 k = true := by rw [Bool.and_eq_true] at q; exact q.1
    obtain ⟨r', g1, g2, g3⟩ := set_reads (s := s) (k := k) (v := v) h.t2.1
    rw [t2F_p] at g2 g3
    refine ⟨r + r', ?_, by omega, fun a b c => ?_⟩
    · unfold t3F; rw [if_pos q]; show (tset _ _ _ _).1.pr = _; rw [g1, e1]; omega
    · have := hA hk a b c
      rw [e3 this, g3 this]
  · refine ⟨r, ?_, by omega, fun a b c => ?_⟩
    · unfold t3F; rw [if_neg q]; exact e1
    · by_cases hk : kn1 1 k = true
      · exact e3 (hA hk a b c)
      · exact e4 (by simpa using hk)
end Go.Proofs.YtpmmploedkbeoaaGreatDoor

/- The walk of row. -/
namespace Go.Proofs.YtpmmploedkbeoaaGreatDoor
open Go.RowKit

/-- How many keys are Ints from 1 to n. -/
def rowN (l : List (V × V)) (n : Int) : Nat := l.countP fun x => decide (x.1.1 = 2 ∧ 1 ≤ x.1.2.1 ∧ x.1.2.1 ≤ n)
theorem rowN_le (l : List (V × V)) (n : Int) : rowN l n ≤ l.length := List.countP_le_length
theorem rowN_yes {l : List (V × V)} {n : Int} {k : Nat} {x : V × V} (hx : l[k]? = some x) (h : x.1.1 = 2 ∧ 1 ≤ x.1.2.1 ∧ x.1.2.1 ≤ n) : rowN (l.take (k + 1)) n = rowN (l.take k) n + 1 := by
  rw [List.take_add_one, hx]
  unfold rowN
  rw [List.countP_append]
  congr 1
  simp [h]
theorem rowN_no {l : List (V × V)} {n : Int} {k : Nat} {x : V × V} (hx : l[k]? = some x) (h : ¬ (x.1.1 = 2 ∧ 1 ≤ x.1.2.1 ∧ x.1.2.1 ≤ n)) : rowN (l.take (k + 1)) n = rowN (l.take k) n := by
  rw [List.take_add_one, hx]
  unfold rowN
  rw [List.countP_append]
  have : List.countP (fun x : V × V => decide (x.1.1 = 2 ∧ 1 ≤ x.1.2.1 ∧ x.1.2.1 ≤ n)) [x] = 0 := by simpa using h
  show _ + List.countP (fun x : V × V => decide (x.1.1 = 2 ∧ 1 ≤ x.1.2.1 ∧ x.1.2.1 ≤ n)) [x] = _
  omega
theorem prL_get : ∀ (l : List (V × V)) (k : Nat) (x : V × V), l[k]? = some x → (prL l).getD (2 * k) nil = x.1 ∧ (prL l).getD (2 * k + 1) nil = x.2
  | [], k, x, h => by simp at h
  | y :: l, 0, x, h => by
    obtain rfl : y = x := by simpa using h
    exact ⟨rfl, rfl⟩
  | y :: l, k + 1, x, h => by
    have e := prL_get l k x (by simpa using h)
    exact e
/-- A pair in a list of values. -/
theorem vin_pair {w : World} {a : Option Addr} {l : List (V × V)} (h : Vin w a (prL l).length (fun i => (prL l).getD i nil)) {k : Nat} {x : V × V} (hx : l[k]? = some x) : ∃ lb off, a = some ⟨lb, off, none⟩ ∧ lb < w.heap.size ∧
    w.cell? ⟨lb, off + 2 * k * 3, none⟩ = some (.int .i64 x.1.1) ∧ w.cell? ⟨lb, off + 2 * k * 3 + 1, none⟩ = some (.int .i64 x.1.2.1) ∧ w.cell? ⟨lb, off + 2 * k * 3 + 2, none⟩ = some (.string x.1.2.2) ∧
    w.cell? ⟨lb, off + (2 * k + 1) * 3, none⟩ = some (.int .i64 x.2.1) ∧ w.cell? ⟨lb, off + (2 * k + 1) * 3 + 1, none⟩ = some (.int .i64 x.2.2.1) ∧ w.cell? ⟨lb, off + (2 * k + 1) * 3 + 2, none⟩ = some (.string x.2.2.2) := by
  have hk : k < l.length := (List.getElem?_eq_some_iff.1 hx).1
  have hl := prL_len l
  obtain ⟨lb, off, e, hb, c0, c1, c2⟩ := h.at' (2 * k) (by omega)
  obtain ⟨lb', off', e', hb', d0, d1, d2⟩ := h.at' (2 * k + 1) (by omega)
  rw [e] at e'
  cases e'
  simp only [(prL_get l k x hx).1] at c0 c1 c2
  simp only [(prL_get l k x hx).2] at d0 d1 d2
  exact ⟨lb, off, e, hb, c0, c1, c2, d0, d1, d2⟩
set_option maxRecDepth 20000 in
set_option maxHeartbeats 4000000 in
theorem row_any {w : World} {a : Option Addr} {l : List (V × V)} {c : Nat} (hv : Vin w a (prL l).length (fun i => (prL l).getD i nil)) (hl : l.length ≤ 500) (n : Int) :
    Calls Tryz.prog 16 #[.slice a (prL l).length c, .int .i64 n] w fun e w' => e = .returned (.int .i64 (rowN l n : Nat)) ∧ Below w.heap.size w w' := by
  have HV : Hid (Vin w a (prL l).length (fun i => (prL l).getD i nil)) := hv
  have hlen := prL_len l
  clear hv
  go_enter Tryz.func16, Tryz.ntmps16
  go_wp2_with fail
  go_loopw [5, 6] (fun cv iv wr => ∃ k : Nat, cv = .int .i64 (rowN (l.take k) n : Nat) ∧ iv = .int .i64 ((2 * k : Nat) : Int) ∧ k ≤ l.length ∧ Hid (Below w.heap.size w wr)) (fun _ iv _ => 2 * l.length + 2 - (intOf iv).toNat)
  case atStart => exact ⟨0, rfl, rfl, by omega, Below.refl _ _⟩
  case round =>
    obtain ⟨k, rfl, rfl, hk, HW⟩ := hrel
    have w1 : IntKind.i64.wrap (((2 * k : Nat) : Int) + 1) = ((2 * k : Nat) : Int) + 1 := by rw [IntKind.wrap_i64]; omega
    have w2 : IntKind.i64.wrap (((2 * k : Nat) : Int) + 2) = ((2 * (k + 1) : Nat) : Int) := by rw [IntKind.wrap_i64]; omega
    have hr := rowN_le (l.take k) n
    have hr2 : (l.take k).length ≤ 500 := by rw [List.length_take]; omega
    have w3 : IntKind.i64.wrap ((rowN (l.take k) n : Int) + 1) = (rowN (l.take k) n : Int) + 1 := by rw [IntKind.wrap_i64]; omega
    clear hr hr2
    by_cases hlt : k < l.length
    · have hlt' : ((2 * k : Nat) : Int) + 1 < ((prL l).length : Int) := by omega
      have hlt2 : ((2 * k : Nat) : Int) < ((prL l).length : Int) := by omega
      obtain ⟨x, hx⟩ : ∃ x, l[k]? = some x := ⟨_, List.getElem?_eq_getElem hlt⟩
      obtain ⟨lb, off, rfl, hb, c0, c1, c2, d0, d1, d2⟩ := vin_pair (HV.out.below HW.out) hx
      clear hb d0 d1 d2 c2
      have HX : Hid (l[k]? = some x) := hx
      clear hx
      by_cases h1 : x.1.1 = 2
      · by_cases h2 : 1 ≤ x.1.2.1
        · by_cases h3 : x.1.2.1 ≤ n
          · have HN : Hid (rowN (l.take (k + 1)) n = rowN (l.take k) n + 1) := rowN_yes HX.out ⟨h1, h2, h3⟩
            go_wp2_with fail
            go_roundw
            case rel => exact ⟨k + 1, by rw [HN.out]; rfl, by go_num, by omega, HW⟩
            case measure => first | omega | (simp only [intOf]; omega) | (simp; omega)
          · have HN : Hid (rowN (l.take (k + 1)) n = rowN (l.take k) n) := rowN_no HX.out (fun q => h3 q.2.2)
            go_wp2_with fail
            go_roundw
            case rel => exact ⟨k + 1, by rw [HN.out], by go_num, by omega, HW⟩
            case measure => first | omega | (simp only [intOf]; omega) | (simp; omega)
        · have HN : Hid (rowN (l.take (k + 1)) n = rowN (l.take k) n) := rowN_no HX.out (fun q => h2 q.2.1)
          go_wp2_with fail
          go_roundw
          case rel => exact ⟨k + 1, by rw [HN.out], by go_num, by omega, HW⟩
          case measure => first | omega | (simp only [intOf]; omega) | (simp; omega)
      · have HN : Hid (rowN (l.take (k + 1)) n = rowN (l.take k) n) := rowN_no HX.out (fun q => h1 q.1)
        have hb : (x.1.1 == 2) = false := by simpa using h1
        go_wp2_with fail
        go_roundw
        case rel => exact ⟨k + 1, by rw [HN.out], by go_num, by omega, HW⟩
        case measure => first | omega | (simp only [intOf]; omega) | (simp; omega)
    · have e0 : k = l.length := by omega
      have hlt' : ¬ ((2 * k : Nat) : Int) + 1 < ((prL l).length : Int) := by omega
      go_wp2_with fail
      go_ret
      exact ⟨rfl, HW.out⟩
end Go.Proofs.YtpmmploedkbeoaaGreatDoor

/- The walks of SameVals and census. -/
namespace Go.Proofs.YtpmmploedkbeoaaGreatDoor
open Go.RowKit

set_option maxRecDepth 20000 in
set_option maxHeartbeats 4000000 in
theorem sameVals_any {w : World} {a b : Option Addr} {L c d : Nat} {F : Nat → V} (ha : Vin w a L F) (hb : Vin w b L F) (hL : L ≤ 1000) :
    Calls Tryz.prog 8 #[.slice a L c, .slice b L d] w fun e w' => e = .returned (.bool true) ∧ Below w.heap.size w w' := by
  have HA : Hid (Vin w a L F) := ha
  have HB : Hid (Vin w b L F) := hb
  clear ha hb
  go_enter Tryz.func8, Tryz.ntmps8
  go_wp2_with fail
  go_loopw [5] (fun iv wr => ∃ k : Nat, iv = .int .i64 (k : Nat) ∧ k ≤ L ∧ Hid (Below w.heap.size w wr)) (fun iv _ => L - (intOf iv).toNat)
  case atStart => exact ⟨0, rfl, by omega, Below.refl _ _⟩
  case round =>
    obtain ⟨k, rfl, hk, HW⟩ := hrel
    by_cases hlt : k < L
    · have hlt' : (k : Int) < (L : Int) := by omega
      have wi : IntKind.i64.wrap ((k : Int) + 1) = (k : Int) + 1 := by rw [IntKind.wrap_i64]; omega
      obtain ⟨la, oa, rfl, h1, a0, a1, a2⟩ := (HA.out.below HW.out).at' k hlt
      obtain ⟨lb, ob, rfl, h2, b0, b1', b2'⟩ := (HB.out.below HW.out).at' k hlt
      clear h1 h2
      generalize F k = y at *
      go_wp2_with fail
      go_quiet (fail)
      go_wp2_with fail
      go_roundw
      case rel => exact ⟨k + 1, by go_num, by omega, (bthen HW.out HW.out.size (bdrN _ _) : Below _ _ _)⟩
      case measure => first | omega | (simp only [intOf]; omega) | (simp; omega)
    · have e0 : k = L := by omega
      have hlt' : ¬ (k : Int) < (L : Int) := by omega
      go_wp2_with fail
      go_ret
      exact ⟨rfl, HW.out⟩
end Go.Proofs.YtpmmploedkbeoaaGreatDoor

/- The walk of census. -/
namespace Go.Proofs.YtpmmploedkbeoaaGreatDoor
open Go.RowKit

/-- The sizes that the promise asks for. -/
structure Cen (l : List (V × V)) (A Z : Nat) : Prop where
  a : A ≤ 65536
  pow : A = 0 ∨ ∃ i, i ≤ 16 ∧ A = 2 ^ i
  half : A ≠ 0 → A < 2 * rowN l (A : Nat)
  most : ∀ j : Nat, j ≤ 16 → A < 2 ^ j → 2 * rowN l ((2 ^ j : Nat) : Int) ≤ 2 ^ j
  up : (Z : Int) = C.up2 (((l.length - rowN l (A : Nat) : Nat)) : Int)
theorem row_wi (l : List (V × V)) (n : Int) : C.wi (ints (l.map (·.1))) n = (rowN l n : Nat) := by
  unfold C.wi rowN ints
  congr 1
  induction l with
  | nil => rfl
  | cons x l ih =>
    rw [List.map_cons, List.filterMap_cons, List.countP_cons]
    by_cases h : x.1.1 = 2
    · rw [if_pos h]
      show List.countP _ (x.1.2.1 :: _) = _
      rw [List.countP_cons, ih]
      congr 1
      simp [h]
    · rw [if_neg h]
      show List.countP _ (List.filterMap _ _) = _
      rw [ih]
      simp [h]
theorem Fits.cen {l : List (V × V)} {A Z : Nat} (h : Fits (l.map (·.1)) A Z) (hk : ∀ k, k ∈ l.map (·.1) → KOK k) : Cen l A Z := by
  refine ⟨h.a, h.pow, fun q => ?_, fun j hj hlt => ?_, ?_⟩
  · have := h.dense.half (by omega)
    rw [row_wi] at this
    omega
  · have := h.dense.most j hj (by have e : ((2 ^ j : Nat) : Int) = 2 ^ j := by rw [Int.natCast_pow]; rfl
                                  omega)
    rw [row_wi] at this
    have e : ((2 ^ j : Nat) : Int) = 2 ^ j := by rw [Int.natCast_pow]; rfl
    rw [← e] at this
    omega
  · rw [h.up]
    congr 1
    have e1 := outK_cnt A (l.map (·.1)) hk
    have e2 := ints_len (l.map (·.1))
    rw [row_wi] at e1
    rw [List.length_map] at e2
    have e3 := rowN_le l (A : Nat)
    omega
end Go.Proofs.YtpmmploedkbeoaaGreatDoor

/- The walk of census. -/
namespace Go.Proofs.YtpmmploedkbeoaaGreatDoor
open Go.RowKit

theorem Cen.step {l : List (V × V)} {A Z : Nat} (h : Cen l A Z) {j : Nat} {b : Int} (hj : j ≤ 16) (hb : A < 2 ^ j → b = (A : Nat)) :
    (2 ^ j < 2 * rowN l ((2 ^ j : Nat) : Int) → A < 2 ^ (j + 1) → ((2 ^ j : Nat) : Int) = (A : Nat)) ∧ (¬ 2 ^ j < 2 * rowN l ((2 ^ j : Nat) : Int) → A < 2 ^ (j + 1) → b = (A : Nat)) := by
  have key : A < 2 ^ (j + 1) → ¬ A < 2 ^ j → A = 2 ^ j := fun q1 q2 => by
    have hp := Nat.two_pow_pos j
    rcases h.pow with e | ⟨i, hi, e⟩
    · omega
    · rw [e] at q1 q2 ⊢
      have a1 : i < j + 1 := (Nat.pow_lt_pow_iff_right (by omega)).1 q1
      have a2 : ¬ i < j := fun z => q2 ((Nat.pow_lt_pow_iff_right (by omega)).2 z)
      rw [show i = j by omega]
  constructor
  · intro q1 q2
    by_cases q3 : A < 2 ^ j
    · have := h.most j hj q3; omega
    · rw [key q2 q3]
  · intro q1 q2
    by_cases q3 : A < 2 ^ j
    · exact hb q3
    · exfalso
      have e := key q2 q3
      have hp := Nat.two_pow_pos j
      have := h.half (by omega)
      rw [e] at this
      exact q1 this
/-- The sizes' loop. -/
theorem up_step {r Z : Nat} (hr : 1 ≤ r) (h5 : r ≤ 500) (h : (Z : Int) = C.up2 (r : Nat)) : ∃ L, L ≤ 10 ∧ Z = 2 ^ L ∧ (∀ j, j ≤ L → 2 ^ j < r → j + 1 ≤ L) ∧ ∀ j, j ≤ L → ¬ 2 ^ j < r → 2 ^ j = Z := by
  unfold C.up2 at h
  rw [if_neg (by omega)] at h
  obtain ⟨e0, e1, e2, e3, e4, e5⟩ := C.cl_facts (r : Nat) (by omega) (by omega)
  unfold C.cl at h e1 e2
  have hz : Z = 2 ^ C.lgN (r : Nat) := by
    have : ((2 ^ C.lgN (r : Nat) : Nat) : Int) = 2 ^ C.lgN (r : Nat) := by rw [Int.natCast_pow]; rfl
    omega
  have e6 : ((2 ^ C.lgN (r : Nat) : Nat) : Int) = 2 ^ C.lgN (r : Nat) := by rw [Int.natCast_pow]; rfl
  generalize C.lgN (r : Nat) = L at *
  rw [← e6] at e1 e2
  have hlt : ∀ j, j < L → 2 * 2 ^ j ≤ 2 ^ L := fun j hj => by
    have := Nat.pow_le_pow_right (n := 2) (by omega) (show j + 1 ≤ L by omega)
    rw [Nat.pow_succ] at this
    omega
  refine ⟨L, ?_, hz, fun j hj q => ?_, fun j hj q => ?_⟩
  · by_cases q : L ≤ 10
    · exact q
    · have := Nat.pow_le_pow_right (n := 2) (by omega) (show 11 ≤ L by omega)
      omega
  · by_cases e : j = L
    · subst e; omega
    · omega
  · by_cases e : j = L
    · rw [e, hz]
    · have := hlt j (by omega); omega
set_option maxRecDepth 20000 in
set_option maxHeartbeats 4000000 in
theorem census_any {w : World} {a : Option Addr} {l : List (V × V)} {A Z c : Nat} (hv : Vin w a (prL l).length (fun i => (prL l).getD i nil)) (hl : l.length ≤ 500) (hc : Cen l A Z) :
    Calls Tryz.prog 10 #[.int .i64 (A : Nat), .int .i64 (Z : Nat), .slice a (prL l).length c] w fun e w' => e = .returned (.bool true) ∧ Below w.heap.size w w' := by
  have hlen := prL_len l
  have C1 : Hid (∀ (n : Int) W, Below w.heap.size w W → Calls Tryz.prog 16 #[.slice a (prL l).length c, .int .i64 n] W fun e w' => e = .returned (.int .i64 (rowN l n : Nat)) ∧ Below W.heap.size W w') := fun n W k => row_any (hv.below k) hl n
  have HC : Hid (Cen l A Z) := hc
  clear hv
  generalize (prL l).length = lL at *
  have HL : Hid (lL = 2 * l.length) := hlen
  clear hlen
  obtain ⟨r, hr⟩ : ∃ r, l.length - rowN l (A : Nat) = r := ⟨_, rfl⟩
  have hrl := rowN_le l (A : Nat)
  have HU : Hid ((Z : Int) = C.up2 (r : Nat)) := by rw [← hr]; exact hc.up
  have hr5 : r ≤ 500 := by omega
  have hA := hc.a
  clear hc
  go_enter Tryz.func10, Tryz.ntmps10
  go_wp2_with fail
  go_loopw [7, 8] (fun bv pv wr => ∃ (j : Nat) (b : Int), bv = .int .i64 b ∧ pv = .int .i64 ((2 ^ j : Nat) : Int) ∧ j ≤ 17 ∧ Hid ((A < 2 ^ j → b = (A : Nat)) ∧ Below w.heap.size w wr)) (fun _ pv _ => (200000 - intOf pv).toNat)
  case atStart => exact ⟨0, 0, rfl, rfl, by omega, fun q => by have : A < 1 := q; omega, Below.refl _ _⟩
  case round =>
    obtain ⟨j, b, rfl, rfl, hj, HW⟩ := hrel
    obtain ⟨q, hq⟩ : ∃ q, 2 ^ j = q := ⟨_, rfl⟩
    have hq2 : 2 ^ (j + 1) = q * 2 := by rw [Nat.pow_succ, hq]
    by_cases hlt : j ≤ 16
    · have hqb : q ≤ 65536 := by rw [← hq]; exact Nat.pow_le_pow_right (n := 2) (by omega) (show j ≤ 16 from hlt)
      have hq1 : 1 ≤ q := by rw [← hq]; exact Nat.two_pow_pos j
      have hlt' : (q : Int) ≤ 65536 := by omega
      have HS := HC.out.step (b := b) hlt HW.out.1
      rw [hq, hq2] at HS
      have HS' : Hid ((q < 2 * rowN l (q : Nat) → A < q * 2 → ((q : Nat) : Int) = (A : Nat)) ∧ (¬ q < 2 * rowN l (q : Nat) → A < q * 2 → b = (A : Nat))) := HS
      have HQ : Hid (2 ^ (j + 1) = q * 2) := hq2
      rw [hq]
      have CR := C1.out (q : Nat) wr HW.out.2
      have hrq := rowN_le l (q : Nat)
      generalize hrr : rowN l (q : Nat) = rr at *
      have w1 : IntKind.i64.wrap (2 * (rr : Int)) = 2 * (rr : Int) := by rw [IntKind.wrap_i64]; omega
      have w2 : IntKind.i64.wrap ((q : Int) * 2) = ((q * 2 : Nat) : Int) := by rw [IntKind.wrap_i64]; omega
      clear HS hq hq2 hrr
      by_cases hy : q < 2 * rr
      · have hy' : 2 * (rr : Int) > (q : Int) := by omega
        go_wp2_with fail
        refine CR.mono ?_; rintro e W ⟨rfl, hb⟩
        have HW2 : Hid (Below w.heap.size w W) := bthen HW.out.2 HW.out.2.size hb
        clear CR hb
        go_wp2_with fail
        go_roundw
        case rel => exact ⟨j + 1, (q : Nat), by go_num, by rw [HQ.out]; first | rfl | (rw [Int.natCast_mul]; rfl) | (congr 1), by omega, by rw [HQ.out]; exact ⟨HS'.out.1 hy, HW2.out⟩⟩
        case measure => first | omega | (simp only [intOf]; omega) | (simp; omega)
      · have hy' : ¬ 2 * (rr : Int) > (q : Int) := by omega
        go_wp2_with fail
        refine CR.mono ?_; rintro e W ⟨rfl, hb⟩
        have HW2 : Hid (Below w.heap.size w W) := bthen HW.out.2 HW.out.2.size hb
        clear CR hb
        go_wp2_with fail
        go_roundw
        case rel => exact ⟨j + 1, b, by go_num, by rw [HQ.out]; first | rfl | (rw [Int.natCast_mul]; rfl) | (congr 1), by omega, by rw [HQ.out]; exact ⟨HS'.out.2 hy, HW2.out⟩⟩
        case measure => first | omega | (simp only [intOf]; omega) | (simp; omega)
    · have e0 : j = 17 := by omega
      subst e0
      have hq' : q = 131072 := by rw [← hq]
      have hlt' : ¬ (q : Int) ≤ 65536 := by omega
      have eb : b = (A : Nat) := HW.out.1 (by omega)
      subst eb
      rw [hq]
      have CR := C1.out (A : Nat) wr HW.out.2
      have hd : ((lL : Nat) : Int).tdiv 2 = (l.length : Nat) := by rw [HL.out, Int.natCast_mul]; exact Int.mul_tdiv_cancel_left _ (by decide)
      have w1 : IntKind.i64.wrap ((l.length : Nat) : Int) = (l.length : Nat) := by rw [IntKind.wrap_i64]; omega
      have w2 : IntKind.i64.wrap (((l.length : Nat) : Int) - (rowN l (A : Nat) : Nat)) = (r : Nat) := by rw [IntKind.wrap_i64]; omega
      clear hq hq2
      go_wp2_with fail
      refine CR.mono ?_; rintro e W ⟨rfl, hb⟩
      have HW2 : Hid (Below w.heap.size w W) := bthen HW.out.2 HW.out.2.size hb
      clear CR hb
      by_cases h0 : r = 0
      · subst h0
        have hZ : Z = 0 := by have := HU.out; unfold C.up2 at this; rw [if_pos (by rfl)] at this; omega
        subst hZ
        have g0 : ¬ ((0 : Nat) : Int) > 0 := by decide
        go_wp2_with fail
        go_ret
        exact ⟨rfl, HW2.out⟩
      · obtain ⟨L, hL, hZ, s1, s2⟩ := up_step (by omega) hr5 HU.out
        have HS : Hid ((∀ j, j ≤ L → 2 ^ j < r → j + 1 ≤ L) ∧ ∀ j, j ≤ L → ¬ 2 ^ j < r → 2 ^ j = Z) := ⟨s1, s2⟩
        have g0 : (r : Int) > 0 := by omega
        clear s1 s2 hZ
        go_wp2_with fail
        go_loopw [10] (fun sv wr => ∃ j : Nat, sv = .int .i64 ((2 ^ j : Nat) : Int) ∧ j ≤ L ∧ Hid (Below w.heap.size w wr)) (fun sv _ => (200000 - intOf sv).toNat)
        case atStart => exact ⟨0, rfl, by omega, HW2.out⟩
        case round =>
          obtain ⟨j, rfl, hj, HR⟩ := hrel
          obtain ⟨q, hq⟩ : ∃ q, 2 ^ j = q := ⟨_, rfl⟩
          have HQ : Hid (2 ^ (j + 1) = q * 2) := by show _ = _; rw [Nat.pow_succ, hq]
          have hq1 : 1 ≤ q := by rw [← hq]; exact Nat.two_pow_pos j
          have f1 := HS.out.1 j hj
          have f2 := HS.out.2 j hj
          rw [hq] at f1 f2 ⊢
          have hqb : q ≤ 1024 := by rw [← hq]; exact Nat.pow_le_pow_right (n := 2) (by omega) (show j ≤ 10 by omega)
          clear hq
          by_cases hlt : q < r
          · have hlt' : (q : Int) < (r : Int) := by omega
            have w2 : IntKind.i64.wrap ((q : Int) * 2) = ((q * 2 : Nat) : Int) := by rw [IntKind.wrap_i64]; omega
            have f1' := f1 hlt
            clear f1 f2
            go_wp2_with fail
            go_roundw
            case rel => exact ⟨j + 1, by rw [HQ.out]; first | rfl | (rw [Int.natCast_mul]; rfl) | (congr 1), by omega, HR⟩
            case measure => first | omega | (simp only [intOf]; omega) | (simp; omega)
          · have hlt' : ¬ (q : Int) < (r : Int) := by omega
            have f2' := f2 hlt
            subst f2'
            clear f1 f2
            go_wp2_with fail
            go_ret
            exact ⟨rfl, HR.out⟩
end Go.Proofs.YtpmmploedkbeoaaGreatDoor

/- Play on the script. -/
namespace Go.Proofs.YtpmmploedkbeoaaGreatDoor
open Go.RowKit

theorem stA_congr {K K' : Nat → Int} {Fs : Nat → Nat → V} {t0 : TS} {s0 : H.St} : ∀ i, (∀ j, j < i → K j = K' j) → stA K Fs t0 s0 i = stA K' Fs t0 s0 i
  | 0, _ => rfl
  | i + 1, h => by rw [stA, stA, stA_congr i (fun j hj => h j (by omega)), h i (by omega)]
theorem rpA_congr {K K' : Nat → Int} {Fs : Nat → Nat → V} {t0 : TS} {s0 : H.St} (i : Nat) (h : ∀ j, j < i → K j = K' j) : rpA K Fs t0 s0 i = rpA K' Fs t0 s0 i := by
  cases i with
  | zero => rfl
  | succ i => rw [rpA, rpA, stA_congr i (fun j hj => h j (by omega)), h i (by omega)]
theorem kds_or (j : Nat) : kdS j = 8 ∨ kdS j = 9 ∨ kdS j = 12 ∨ kdS j = 13 := by
  unfold kdS
  split
  · exact .inr (.inr (.inl rfl))
  · split
    · exact .inl rfl
    · split
      · exact .inr (.inl rfl)
      · split
        · exact .inr (.inr (.inl rfl))
        · exact .inr (.inr (.inr rfl))
/-- What Play says of the script. -/
structure PlQ (P : Nat → V × V) (w : World) (n : Nat) (e : Ending) (w' : World) : Prop where
  ex : ∃ R t0 s0 No, e = .returned (.tuple #[.slice (some ⟨R, 0, none⟩) (1 + 5 * n) (1 + 5 * n), .int .i64 0]) ∧ Ini t0 s0 ∧ (∀ j, j ≤ 5 * n → TI (stA kdS (fsS P) t0 s0 j).1.p ∧ H.Inv 0 (stA kdS (fsS P) t0 s0 j).2) ∧ ∀ j, j < 1 + 5 * n → RpA No w' w.heap.size R j (rpA kdS (fsS P) t0 s0 j).1 (rpA kdS (fsS P) t0 s0 j).2
  bl : Below w.heap.size w w'
theorem play_script {w wr : World} {B n bt c : Nat} {P : Nat → V × V} {l : List Opv} {a : Option Addr} (h : SI w B P n l (.slice a l.length c) bt wr) (hn : n ≤ 120) (hr : ∀ q, Rng (P q).1) :
    Calls Tryz.prog 6 #[.int .i64 0, .int .i64 400000, .slice a l.length c] wr (PlQ P wr n) := by
  have hlen := h.len
  have hO : Ol wr a (1 + 5 * n) (fun j => l.getD j op0) := by
    have := ol_of h.row
    rwa [hlen] at this
  have hg : ∀ j, j + 1 < 1 + 5 * n → l[j + 1]? = some (l.getD (j + 1) op0) := fun j hj => by
    rw [List.getD_eq_getElem?_getD, List.getElem?_eq_getElem (by omega)]; rfl
  have hk : ∀ j, j + 1 < 1 + 5 * n → (l.getD (j + 1) op0).k = kdS j := fun j hj => (h.ops j _ (hg j hj)).k
  have h0 : (fun j => l.getD j op0) 0 = ⟨7, ⟨#[]⟩, none, 0, 0, 0, 0⟩ := by
    show l.getD 0 op0 = _
    rw [List.getD_eq_getElem?_getD, h.f0]; rfl
  have hv : ∀ j, j + 1 < 1 + 5 * n → Vo (fun g => g < wr.heap.size) wr ((fun j => l.getD j op0) (j + 1)) (fsS P j) := fun j hj => by
    have q := h.ops j _ (hg j hj)
    exact ⟨by rw [hk j hj]; exact kds_or j, q.u, q.c, q.v, fun g off e => (q.b g off e).2, rfl, hr (j / 5)⟩
  have C := play_any hO (by omega) (by omega) h0 (fsS P) hv (cp := c) (fun t0 s0 i h1 h2 h3 => by
    have e : ∀ j, j ≤ i → stA (fun j => ((fun j => l.getD j op0) (j + 1)).k) (fsS P) t0 s0 j = stA kdS (fsS P) t0 s0 j := fun j hj => stA_congr j (fun k hk' => hk k (by omega))
    rw [e i (Nat.le_refl _)]
    exact wl_all h1 hr (by omega) (fun j hj => by rw [← e j hj]; exact h3 j hj))
  rw [hlen]
  refine C.mono ?_
  rintro e w' ⟨⟨R, t0, s0, No, h1, h2, h3, h4⟩, hb⟩
  refine ⟨⟨R, t0, s0, No, h1, h2, fun j hj => ?_, fun j hj => ?_⟩, hb⟩
  · rw [← stA_congr (K := fun j => ((fun j => l.getD j op0) (j + 1)).k) j (fun k hk' => hk k (by omega))]
    exact h3 j (by omega)
  · rw [← rpA_congr (K := fun j => ((fun j => l.getD j op0) (j + 1)).k) j (fun k hk' => hk k (by omega))]
    exact h4 j hj
/-- A reply's cells, its values apart, for a walk. -/
structure Rz (w : World) (R j : Nat) (l : List V) (er : Int) : Prop where
  ex : ∃ x c, Ro w R (j * 11) (.slice x l.length c) er ∧ Vin w x l.length (fun i => l.getD i nil)
theorem RpA.rz {No : Nat → Prop} {w : World} {B R j : Nat} {l : List V} {er : Int} (h : RpA No w B R j l er) : Rz w R j l er := by
  obtain ⟨x, n, c, h1, h2, _⟩ := h.ex
  obtain ⟨a, c', q1, q2, _⟩ := h2.ex
  injection q1 with q1 q3 q4
  subst q1 q3 q4
  exact ⟨_, _, h1, q2⟩
theorem Rz.below {w w' : World} {R j : Nat} {l : List V} {er : Int} (h : Rz w R j l er) (k : Below w.heap.size w w') : Rz w' R j l er := by
  obtain ⟨x, c, h1, h2⟩ := h.ex
  exact ⟨x, c, h1.block (k.block R h1.lt) k.size, h2.below k⟩
end Go.Proofs.YtpmmploedkbeoaaGreatDoor

/- Boxes of replies: made and filled at the end of a region. -/
namespace Go.Proofs.YtpmmploedkbeoaaGreatDoor
open Go.RowKit

def zr : Obj := .cells #[.slice none 0 0, .int .i64 0, .int .i64 0, .slice none 0 0, .slice none 0 0, .int .i64 0, .int .i64 0, .int .i64 0, .int .i64 0, .int .i64 0, .int .i64 0] 35
theorem wp_new {ops : Array Oper} {Q : Exit → Act → World → Prop} {o : Oper} {rest : List Oper} {a : Act} {w : World} (hg : o.guard = none) (ho : o.op = .alloc 35)
    (h : wpList Tryz.prog ops Q rest (a.put o.dst (.pointer (some ⟨w.heap.size, 0, none⟩))) (w.alloc zr)) : wpList Tryz.prog ops Q (o :: rest) a w := by
  refine wpList_step fun K hK => ?_
  have hw : Region.wanted o (yielded ops a.tmps) = true := by simp [Region.wanted, hg]
  rw [if_pos hw]
  unfold Oper.wp execOp
  have hz : Tryz.t35.zero = some (rp (.slice none 0 0) 0) := by kernel_rfl
  simp [go_sem, ho, zeroValue, hz, rp]
  exact hK _ _ h
theorem wp_put {ops : Array Oper} {Q : Exit → Act → World → Prop} {o : Oper} {rest : List Oper} {a : Act} {w : World} {N : Nat} {v v0 : Value} {e e0 : Int} (hg : o.guard = none) (p x : Operand) (ho : o.op = .store 35 p x) (hd : o.dst = none) (hp : a.eval p = .pointer (some ⟨N, 0, none⟩)) (hx : a.eval x = rp v e) (hz : R11 w N v0 e0) (hv : v.oneCell' = true)
    (h : wpList Tryz.prog ops Q rest a (set11 w N v e)) : wpList Tryz.prog ops Q (o :: rest) a w := by
  refine wpList_step fun K hK => ?_
  have hw : Region.wanted o (yielded ops a.tmps) = true := by simp [Region.wanted, hg]
  rw [if_pos hw]
  have hr := hz.store v e hv
  have ed : a.put o.dst undef = a := by rw [hd]; rfl
  unfold Oper.wp execOp
  simp only [ho, hp, hx, Sem.run_bind, Sem.run_pure, Result.andThen_ok, hr]
  exact hK _ _ (by rw [ed]; exact h)
/-- 3 boxes made and filled, behind a region's reads. -/
theorem wp_box3 {ops : Array Oper} {Q : Exit → Act → World → Prop} {o1 o2 o3 p1 p2 p3 : Oper} {a : Act} {w : World} (g1 : o1.guard = none) (k1 : p1.guard = none) (a1 : o1.op = .alloc 35) {x1 y1 : Operand} (s1 : p1.op = .store 35 x1 y1) (d1 : p1.dst = none) {v1 : Value} {e1 : Int} (u1 : v1.oneCell' = true) (g2 : o2.guard = none) (k2 : p2.guard = none) (a2 : o2.op = .alloc 35) {x2 y2 : Operand} (s2 : p2.op = .store 35 x2 y2) (d2 : p2.dst = none) {v2 : Value} {e2 : Int} (u2 : v2.oneCell' = true) (g3 : o3.guard = none) (k3 : p3.guard = none) (a3 : o3.op = .alloc 35) {x3 y3 : Operand} (s3 : p3.op = .store 35 x3 y3) (d3 : p3.dst = none) {v3 : Value} {e3 : Int} (u3 : v3.oneCell' = true)
    {ac : Act} (hac : ac = (((a.put o1.dst (.pointer (some ⟨w.heap.size, 0, none⟩))).put o2.dst (.pointer (some ⟨(w.heap.size + 1), 0, none⟩))).put o3.dst (.pointer (some ⟨(w.heap.size + 2), 0, none⟩))))
    (z1 : ac.eval x1 = .pointer (some ⟨w.heap.size, 0, none⟩)) (q1 : ac.eval y1 = rp v1 e1) (z2 : ac.eval x2 = .pointer (some ⟨(w.heap.size + 1), 0, none⟩)) (q2 : ac.eval y2 = rp v2 e2) (z3 : ac.eval x3 = .pointer (some ⟨(w.heap.size + 2), 0, none⟩)) (q3 : ac.eval y3 = rp v3 e3)
    (h : ∀ W, Below w.heap.size w W → W.heap.size = w.heap.size + 3 → R11 W w.heap.size v1 e1 → R11 W (w.heap.size + 1) v2 e2 → R11 W (w.heap.size + 2) v3 e3 → Q .normal ac W) : wpList Tryz.prog ops Q [o1, o2, o3, p1, p2, p3] a w := by
  have h1 : (w.alloc zr).heap.size = w.heap.size + 1 := by simp
  have h2 : ((w.alloc zr).alloc zr).heap.size = w.heap.size + 2 := by simp
  have h3 : (((w.alloc zr).alloc zr).alloc zr).heap.size = w.heap.size + 3 := by simp
  have r1 : R11 (w.alloc zr) w.heap.size (.slice none 0 0) 0 := by have := R11.made w (.slice none 0 0) 0; exact this
  have r1 := r1.below (b1 (w.alloc zr) zr)
  have r1 := r1.below (b1 ((w.alloc zr).alloc zr) zr)
  have r2 : R11 ((w.alloc zr).alloc zr) (w.heap.size + 1) (.slice none 0 0) 0 := by have := R11.made (w.alloc zr) (.slice none 0 0) 0; rwa [h1] at this
  have r2 := r2.below (b1 ((w.alloc zr).alloc zr) zr)
  have r3 : R11 (((w.alloc zr).alloc zr).alloc zr) (w.heap.size + 2) (.slice none 0 0) 0 := by have := R11.made ((w.alloc zr).alloc zr) (.slice none 0 0) 0; rwa [h2] at this
  have bw : Below w.heap.size w (((w.alloc zr).alloc zr).alloc zr) := by
    have q := Below.refl w.heap.size w
    have q := bthen q q.size (b1 w zr)
    have q := bthen q q.size (b1 (w.alloc zr) zr)
    have q := bthen q q.size (b1 ((w.alloc zr).alloc zr) zr)
    exact q
  refine wp_new g1 a1 ?_
  refine wp_new g2 a2 ?_
  refine wp_new g3 a3 ?_
  rw [h1, h2, ← hac]
  obtain ⟨W0, hW0⟩ : ∃ W0, (((w.alloc zr).alloc zr).alloc zr) = W0 := ⟨_, rfl⟩
  rw [hW0] at h3 r1 r2 r3 bw ⊢
  refine wp_put k1 x1 y1 s1 d1 z1 q1 r1 u1 ?_
  have c1 : Keep (fun g => g ≠ w.heap.size) W0 (set11 W0 w.heap.size v1 e1) := keep_set11 (Keep.refl _ _) (fun q => q rfl) _ _
  have t1 := r1.set v1 e1
  obtain ⟨W1, hW1⟩ : ∃ W, set11 W0 w.heap.size v1 e1 = W := ⟨_, rfl⟩
  rw [hW1] at c1 t1 ⊢
  have r2 := r2.kept c1 (by omega)
  have r3 := r3.kept c1 (by omega)
  have bw : Below w.heap.size w W1 := ((Keep.of bw).trans (c1.sub (fun g (q : g < w.heap.size) => by omega))).below (Nat.le_refl _) (fun g q => q)
  have h3 : W1.heap.size = w.heap.size + 3 := by rw [← hW1]; unfold set11; rw [size_setCells']; exact h3
  refine wp_put k2 x2 y2 s2 d2 z2 q2 r2 u2 ?_
  have c2 : Keep (fun g => g ≠ (w.heap.size + 1)) W1 (set11 W1 (w.heap.size + 1) v2 e2) := keep_set11 (Keep.refl _ _) (fun q => q rfl) _ _
  have t2 := r2.set v2 e2
  obtain ⟨W2, hW2⟩ : ∃ W, set11 W1 (w.heap.size + 1) v2 e2 = W := ⟨_, rfl⟩
  rw [hW2] at c2 t2 ⊢
  have t1 := t1.kept c2 (by omega)
  have r3 := r3.kept c2 (by omega)
  have bw : Below w.heap.size w W2 := ((Keep.of bw).trans (c2.sub (fun g (q : g < w.heap.size) => by omega))).below (Nat.le_refl _) (fun g q => q)
  have h3 : W2.heap.size = w.heap.size + 3 := by rw [← hW2]; unfold set11; rw [size_setCells']; exact h3
  refine wp_put k3 x3 y3 s3 d3 z3 q3 r3 u3 ?_
  have c3 : Keep (fun g => g ≠ (w.heap.size + 2)) W2 (set11 W2 (w.heap.size + 2) v3 e3) := keep_set11 (Keep.refl _ _) (fun q => q rfl) _ _
  have t3 := r3.set v3 e3
  obtain ⟨W3, hW3⟩ : ∃ W, set11 W2 (w.heap.size + 2) v3 e3 = W := ⟨_, rfl⟩
  rw [hW3] at c3 t3 ⊢
  have t1 := t1.kept c3 (by omega)
  have t2 := t2.kept c3 (by omega)
  have bw : Below w.heap.size w W3 := ((Keep.of bw).trans (c3.sub (fun g (q : g < w.heap.size) => by omega))).below (Nat.le_refl _) (fun g q => q)
  have h3 : W3.heap.size = w.heap.size + 3 := by rw [← hW3]; unfold set11; rw [size_setCells']; exact h3
  exact wpList_nil (h _ bw h3 t1 t2 t3)
/-- 5 boxes made and filled, behind a region's reads. -/
theorem wp_box5 {ops : Array Oper} {Q : Exit → Act → World → Prop} {o1 o2 o3 o4 o5 p1 p2 p3 p4 p5 : Oper} {a : Act} {w : World} (g1 : o1.guard = none) (k1 : p1.guard = none) (a1 : o1.op = .alloc 35) {x1 y1 : Operand} (s1 : p1.op = .store 35 x1 y1) (d1 : p1.dst = none) {v1 : Value} {e1 : Int} (u1 : v1.oneCell' = true) (g2 : o2.guard = none) (k2 : p2.guard = none) (a2 : o2.op = .alloc 35) {x2 y2 : Operand} (s2 : p2.op = .store 35 x2 y2) (d2 : p2.dst = none) {v2 : Value} {e2 : Int} (u2 : v2.oneCell' = true) (g3 : o3.guard = none) (k3 : p3.guard = none) (a3 : o3.op = .alloc 35) {x3 y3 : Operand} (s3 : p3.op = .store 35 x3 y3) (d3 : p3.dst = none) {v3 : Value} {e3 : Int} (u3 : v3.oneCell' = true) (g4 : o4.guard = none) (k4 : p4.guard = none) (a4 : o4.op = .alloc 35) {x4 y4 : Operand} (s4 : p4.op = .store 35 x4 y4) (d4 : p4.dst = none) {v4 : Value} {e4 : Int} (u4 : v4.oneCell' = true) (g5 : o5.guard = none) (k5 : p5.guard = none) (a5 : o5.op = .alloc 35) {x5 y5 : Operand} (s5 : p5.op = .store 35 x5 y5) (d5 : p5.dst = none) {v5 : Value} {e5 : Int} (u5 : v5.oneCell' = true)
    {ac : Act} (hac : ac = (((((a.put o1.dst (.pointer (some ⟨w.heap.size, 0, none⟩))).put o2.dst (.pointer (some ⟨(w.heap.size + 1), 0, none⟩))).put o3.dst (.pointer (some ⟨(w.heap.size + 2), 0, none⟩))).put o4.dst (.pointer (some ⟨(w.heap.size + 3), 0, none⟩))).put o5.dst (.pointer (some ⟨(w.heap.size + 4), 0, none⟩))))
    (z1 : ac.eval x1 = .pointer (some ⟨w.heap.size, 0, none⟩)) (q1 : ac.eval y1 = rp v1 e1) (z2 : ac.eval x2 = .pointer (some ⟨(w.heap.size + 1), 0, none⟩)) (q2 : ac.eval y2 = rp v2 e2) (z3 : ac.eval x3 = .pointer (some ⟨(w.heap.size + 2), 0, none⟩)) (q3 : ac.eval y3 = rp v3 e3) (z4 : ac.eval x4 = .pointer (some ⟨(w.heap.size + 3), 0, none⟩)) (q4 : ac.eval y4 = rp v4 e4) (z5 : ac.eval x5 = .pointer (some ⟨(w.heap.size + 4), 0, none⟩)) (q5 : ac.eval y5 = rp v5 e5)
    (h : ∀ W, Below w.heap.size w W → W.heap.size = w.heap.size + 5 → R11 W w.heap.size v1 e1 → R11 W (w.heap.size + 1) v2 e2 → R11 W (w.heap.size + 2) v3 e3 → R11 W (w.heap.size + 3) v4 e4 → R11 W (w.heap.size + 4) v5 e5 → Q .normal ac W) : wpList Tryz.prog ops Q [o1, o2, o3, o4, o5, p1, p2, p3, p4, p5] a w := by
  have h1 : (w.alloc zr).heap.size = w.heap.size + 1 := by simp
  have h2 : ((w.alloc zr).alloc zr).heap.size = w.heap.size + 2 := by simp
  have h3 : (((w.alloc zr).alloc zr).alloc zr).heap.size = w.heap.size + 3 := by simp
  have h4 : ((((w.alloc zr).alloc zr).alloc zr).alloc zr).heap.size = w.heap.size + 4 := by simp
  have h5 : (((((w.alloc zr).alloc zr).alloc zr).alloc zr).alloc zr).heap.size = w.heap.size + 5 := by simp
  have r1 : R11 (w.alloc zr) w.heap.size (.slice none 0 0) 0 := by have := R11.made w (.slice none 0 0) 0; exact this
  have r1 := r1.below (b1 (w.alloc zr) zr)
  have r1 := r1.below (b1 ((w.alloc zr).alloc zr) zr)
  have r1 := r1.below (b1 (((w.alloc zr).alloc zr).alloc zr) zr)
  have r1 := r1.below (b1 ((((w.alloc zr).alloc zr).alloc zr).alloc zr) zr)
  have r2 : R11 ((w.alloc zr).alloc zr) (w.heap.size + 1) (.slice none 0 0) 0 := by have := R11.made (w.alloc zr) (.slice none 0 0) 0; rwa [h1] at this
  have r2 := r2.below (b1 ((w.alloc zr).alloc zr) zr)
  have r2 := r2.below (b1 (((w.alloc zr).alloc zr).alloc zr) zr)
  have r2 := r2.below (b1 ((((w.alloc zr).alloc zr).alloc zr).alloc zr) zr)
  have r3 : R11 (((w.alloc zr).alloc zr).alloc zr) (w.heap.size + 2) (.slice none 0 0) 0 := by have := R11.made ((w.alloc zr).alloc zr) (.slice none 0 0) 0; rwa [h2] at this
  have r3 := r3.below (b1 (((w.alloc zr).alloc zr).alloc zr) zr)
  have r3 := r3.below (b1 ((((w.alloc zr).alloc zr).alloc zr).alloc zr) zr)
  have r4 : R11 ((((w.alloc zr).alloc zr).alloc zr).alloc zr) (w.heap.size + 3) (.slice none 0 0) 0 := by have := R11.made (((w.alloc zr).alloc zr).alloc zr) (.slice none 0 0) 0; rwa [h3] at this
  have r4 := r4.below (b1 ((((w.alloc zr).alloc zr).alloc zr).alloc zr) zr)
  have r5 : R11 (((((w.alloc zr).alloc zr).alloc zr).alloc zr).alloc zr) (w.heap.size + 4) (.slice none 0 0) 0 := by have := R11.made ((((w.alloc zr).alloc zr).alloc zr).alloc zr) (.slice none 0 0) 0; rwa [h4] at this
  have bw : Below w.heap.size w (((((w.alloc zr).alloc zr).alloc zr).alloc zr).alloc zr) := by
    have q := Below.refl w.heap.size w
    have q := bthen q q.size (b1 w zr)
    have q := bthen q q.size (b1 (w.alloc zr) zr)
    have q := bthen q q.size (b1 ((w.alloc zr).alloc zr) zr)
    have q := bthen q q.size (b1 (((w.alloc zr).alloc zr).alloc zr) zr)
    have q := bthen q q.size (b1 ((((w.alloc zr).alloc zr).alloc zr).alloc zr) zr)
    exact q
  refine wp_new g1 a1 ?_
  refine wp_new g2 a2 ?_
  refine wp_new g3 a3 ?_
  refine wp_new g4 a4 ?_
  refine wp_new g5 a5 ?_
  rw [h1, h2, h3, h4, ← hac]
  obtain ⟨W0, hW0⟩ : ∃ W0, (((((w.alloc zr).alloc zr).alloc zr).alloc zr).alloc zr) = W0 := ⟨_, rfl⟩
  rw [hW0] at h5 r1 r2 r3 r4 r5 bw ⊢
  refine wp_put k1 x1 y1 s1 d1 z1 q1 r1 u1 ?_
  have c1 : Keep (fun g => g ≠ w.heap.size) W0 (set11 W0 w.heap.size v1 e1) := keep_set11 (Keep.refl _ _) (fun q => q rfl) _ _
  have t1 := r1.set v1 e1
  obtain ⟨W1, hW1⟩ : ∃ W, set11 W0 w.heap.size v1 e1 = W := ⟨_, rfl⟩
  rw [hW1] at c1 t1 ⊢
  have r2 := r2.kept c1 (by omega)
  have r3 := r3.kept c1 (by omega)
  have r4 := r4.kept c1 (by omega)
  have r5 := r5.kept c1 (by omega)
  have bw : Below w.heap.size w W1 := ((Keep.of bw).trans (c1.sub (fun g (q : g < w.heap.size) => by omega))).below (Nat.le_refl _) (fun g q => q)
  have h5 : W1.heap.size = w.heap.size + 5 := by rw [← hW1]; unfold set11; rw [size_setCells']; exact h5
  refine wp_put k2 x2 y2 s2 d2 z2 q2 r2 u2 ?_
  have c2 : Keep (fun g => g ≠ (w.heap.size + 1)) W1 (set11 W1 (w.heap.size + 1) v2 e2) := keep_set11 (Keep.refl _ _) (fun q => q rfl) _ _
  have t2 := r2.set v2 e2
  obtain ⟨W2, hW2⟩ : ∃ W, set11 W1 (w.heap.size + 1) v2 e2 = W := ⟨_, rfl⟩
  rw [hW2] at c2 t2 ⊢
  have t1 := t1.kept c2 (by omega)
  have r3 := r3.kept c2 (by omega)
  have r4 := r4.kept c2 (by omega)
  have r5 := r5.kept c2 (by omega)
  have bw : Below w.heap.size w W2 := ((Keep.of bw).trans (c2.sub (fun g (q : g < w.heap.size) => by omega))).below (Nat.le_refl _) (fun g q => q)
  have h5 : W2.heap.size = w.heap.size + 5 := by rw [← hW2]; unfold set11; rw [size_setCells']; exact h5
  refine wp_put k3 x3 y3 s3 d3 z3 q3 r3 u3 ?_
  have c3 : Keep (fun g => g ≠ (w.heap.size + 2)) W2 (set11 W2 (w.heap.size + 2) v3 e3) := keep_set11 (Keep.refl _ _) (fun q => q rfl) _ _
  have t3 := r3.set v3 e3
  obtain ⟨W3, hW3⟩ : ∃ W, set11 W2 (w.heap.size + 2) v3 e3 = W := ⟨_, rfl⟩
  rw [hW3] at c3 t3 ⊢
  have t1 := t1.kept c3 (by omega)
  have t2 := t2.kept c3 (by omega)
  have r4 := r4.kept c3 (by omega)
  have r5 := r5.kept c3 (by omega)
  have bw : Below w.heap.size w W3 := ((Keep.of bw).trans (c3.sub (fun g (q : g < w.heap.size) => by omega))).below (Nat.le_refl _) (fun g q => q)
  have h5 : W3.heap.size = w.heap.size + 5 := by rw [← hW3]; unfold set11; rw [size_setCells']; exact h5
  refine wp_put k4 x4 y4 s4 d4 z4 q4 r4 u4 ?_
  have c4 : Keep (fun g => g ≠ (w.heap.size + 3)) W3 (set11 W3 (w.heap.size + 3) v4 e4) := keep_set11 (Keep.refl _ _) (fun q => q rfl) _ _
  have t4 := r4.set v4 e4
  obtain ⟨W4, hW4⟩ : ∃ W, set11 W3 (w.heap.size + 3) v4 e4 = W := ⟨_, rfl⟩
  rw [hW4] at c4 t4 ⊢
  have t1 := t1.kept c4 (by omega)
  have t2 := t2.kept c4 (by omega)
  have t3 := t3.kept c4 (by omega)
  have r5 := r5.kept c4 (by omega)
  have bw : Below w.heap.size w W4 := ((Keep.of bw).trans (c4.sub (fun g (q : g < w.heap.size) => by omega))).below (Nat.le_refl _) (fun g q => q)
  have h5 : W4.heap.size = w.heap.size + 5 := by rw [← hW4]; unfold set11; rw [size_setCells']; exact h5
  refine wp_put k5 x5 y5 s5 d5 z5 q5 r5 u5 ?_
  have c5 : Keep (fun g => g ≠ (w.heap.size + 4)) W4 (set11 W4 (w.heap.size + 4) v5 e5) := keep_set11 (Keep.refl _ _) (fun q => q rfl) _ _
  have t5 := r5.set v5 e5
  obtain ⟨W5, hW5⟩ : ∃ W, set11 W4 (w.heap.size + 4) v5 e5 = W := ⟨_, rfl⟩
  rw [hW5] at c5 t5 ⊢
  have t1 := t1.kept c5 (by omega)
  have t2 := t2.kept c5 (by omega)
  have t3 := t3.kept c5 (by omega)
  have t4 := t4.kept c5 (by omega)
  have bw : Below w.heap.size w W5 := ((Keep.of bw).trans (c5.sub (fun g (q : g < w.heap.size) => by omega))).below (Nat.le_refl _) (fun g q => q)
  have h5 : W5.heap.size = w.heap.size + 5 := by rw [← hW5]; unfold set11; rw [size_setCells']; exact h5
  exact wpList_nil (h _ bw h5 t1 t2 t3 t4 t5)
end Go.Proofs.YtpmmploedkbeoaaGreatDoor

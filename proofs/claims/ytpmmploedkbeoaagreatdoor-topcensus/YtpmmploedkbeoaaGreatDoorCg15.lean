/- A machine without a program, with one table or none, in memory; Knows, Table. -/
import Derived.Test.YtpmmploedkbeoaaGreatDoorCg14
import Derived.Test.YtpmmploedkbeoaaGreatDoorCg07
import Derived.Test.YtpmmploedkbeoaaGreatDoorCg13
namespace Go.Proofs.YtpmmploedkbeoaaGreatDoor
open Go.RowKit

theorem bdrN (w : World) (n : Nat) : Below w.heap.size w (w.drewN n) := ⟨rfl, rfl, rfl, Nat.le_refl _, fun _ _ => rfl⟩
/-- What a machine with n tables knows: it has no functions. -/
def kn1 (n : Int) (v : V) : Bool :=
  fm v && (if v.1 = 4 then decide (v.2.1 ≤ n) else if v.1 = 5 then decide (v.2.1 < 0) else if v.1 = 6 then decide (v.2.1 ≤ 23) else true)
/-- The machine's struct: block M; its heap S; its tables tv. -/
structure Mc (w : World) (M S : Nat) (tv : Value) : Prop where
  c0 : w.cell? ⟨M, 0, none⟩ = some (.int .i64 0)
  c1 : w.cell? ⟨M, 1, none⟩ = some (.pointer (some ⟨S, 0, none⟩))
  c2 : w.cell? ⟨M, 2, none⟩ = some tv
  c3 : w.cell? ⟨M, 3, none⟩ = some (.slice none 0 0)
  fz : ∀ j, w.frozen? ⟨M, j, none⟩ = false
  lt : M < w.heap.size
theorem Mc.block {w w' : World} {M S : Nat} {tv : Value} (h : Mc w M S tv) (e : w'.heap[M]? = w.heap[M]?) (hs : w.heap.size ≤ w'.heap.size) : Mc w' M S tv :=
  ⟨by rw [World.cell?_of_block (w := w) e]; exact h.c0, by rw [World.cell?_of_block (w := w) e]; exact h.c1, by rw [World.cell?_of_block (w := w) e]; exact h.c2, by rw [World.cell?_of_block (w := w) e]; exact h.c3, fun j => by rw [World.frozen?_of_block (w := w) e]; exact h.fz j, Nat.lt_of_lt_of_le h.lt hs⟩
theorem Mc.kept {No : Nat → Prop} {w w' : World} {M S : Nat} {tv : Value} (h : Mc w M S tv) (k : Keep No w w') (hn : No M) : Mc w' M S tv := h.block (k.block M h.lt hn) k.size
theorem Mc.below {w w' : World} {M S : Nat} {tv : Value} (h : Mc w M S tv) (k : Below w.heap.size w w') : Mc w' M S tv := h.kept (No := fun _ => True) (Keep.of k) trivial
theorem chk_fm (v : V) : (chk v.1 v.2.1 v.2.2 = 0 ↔ fm v = true) := by
  show (if fm v = true then (0 : Int) else 2) = 0 ↔ fm v = true
  split
  · rename_i q; exact ⟨fun _ => q, fun _ => rfl⟩
  · rename_i q; exact ⟨fun z => absurd z (by decide), fun z => absurd z q⟩
theorem chk_no {v : V} (h : fm v = false) : chk v.1 v.2.1 v.2.2 = 2 := by
  show (if fm v = true then (0 : Int) else 2) = 2
  rw [if_neg (by rw [h]; decide)]
set_option maxRecDepth 20000 in
set_option maxHeartbeats 2000000 in
theorem knows_any {w : World} {M S : Nat} {x : Option Addr} {n cp : Nat} (h : Mc w M S (.slice x n cp)) (v : V) :
    Calls Tryz.prog 56 #[.pointer (some ⟨M, 0, none⟩), vv v] w fun e w' => e = .returned (.bool (kn1 n v)) ∧ Below w.heap.size w w' := by
  have B0 := b1 w (vb v.1 v.2.1 v.2.2)
  have X0 := Bx.made w v
  obtain ⟨W0, hW0⟩ : ∃ W0, w.alloc (vb v.1 v.2.1 v.2.2) = W0 := ⟨_, rfl⟩
  rw [hW0] at B0 X0
  have C := check_any v.1 v.2.1 v.2.2 W0
  have B1 := B0.trans ((b1 W0 (vb v.1 v.2.1 v.2.2)).mono B0.size)
  have X1 := X0.below (b1 W0 (vb v.1 v.2.1 v.2.2))
  have M1 := (h.below B0).below (b1 W0 (vb v.1 v.2.1 v.2.2))
  obtain ⟨W1, hW1⟩ : ∃ W1, W0.alloc (vb v.1 v.2.1 v.2.2) = W1 := ⟨_, rfl⟩
  rw [hW1] at B1 X1 M1 C
  have HB : Hid (Below w.heap.size w W1) := B1
  have y0 := X0.c0
  have y1 := X0.c1
  have y2 := X0.c2
  have x0 := X1.c0
  have x1 := X1.c1
  have m2 := M1.c2
  have m3 := M1.c3
  have HK : Hid (kn1 n v = (fm v && (if v.1 = 4 then decide (v.2.1 ≤ n) else if v.1 = 5 then decide (v.2.1 < 0) else if v.1 = 6 then decide (v.2.1 ≤ 23) else true))) := rfl
  clear B0 B1 X0 X1 M1 hW1 h
  unfold vl at C
  unfold vb at hW0
  unfold vv vl
  by_cases hf : fm v = true
  · rw [(chk_fm v).2 hf] at C
    by_cases h4 : v.1 = 4
    · have hk : kn1 n v = decide (v.2.1 ≤ n) := by rw [HK.out, hf, if_pos h4]; rfl
      rw [hk]
      clear hf hk HK
      rw [h4] at hW0 x0 y0 C
      rw [h4]
      go_enter Tryz.func56, Tryz.ntmps56
      go_wp2_with fail
      refine C.mono ?_; rintro e w2 ⟨rfl, hw2⟩; rw [hw2]; clear hw2 C
      go_wp2_with fail
      go_quiet (fail)
      go_wp2
      go_ret
      exact ⟨rfl, bthen HB.out HB.out.size (bdrN _ _)⟩
    · have b4 : (v.1 == 4) = false := by simpa using h4
      by_cases h5 : v.1 = 5
      · have hk : kn1 n v = decide (v.2.1 < 0) := by rw [HK.out, hf, if_neg h4, if_pos h5]; rfl
        rw [hk]
        clear hf hk HK h4 b4
        rw [h5] at hW0 x0 y0 C
        rw [h5]
        go_enter Tryz.func56, Tryz.ntmps56
        go_wp2_with fail
        refine C.mono ?_; rintro e w2 ⟨rfl, hw2⟩; rw [hw2]; clear hw2 C
        go_wp2_with fail
        go_quiet (fail)
        go_wp2
        go_ret
        exact ⟨rfl, bthen HB.out HB.out.size (bdrN _ _)⟩
      · have b5 : (v.1 == 5) = false := by simpa using h5
        by_cases h6 : v.1 = 6
        · have hk : kn1 n v = decide (v.2.1 ≤ 23) := by rw [HK.out, hf, if_neg h4, if_neg h5, if_pos h6]; rfl
          rw [hk]
          clear hf hk HK h4 b4 h5 b5
          rw [h6] at hW0 x0 y0 C
          rw [h6]
          go_enter Tryz.func56, Tryz.ntmps56
          go_wp2_with fail
          refine C.mono ?_; rintro e w2 ⟨rfl, hw2⟩; rw [hw2]; clear hw2 C
          go_wp2
          go_ret
          exact ⟨rfl, HB.out⟩
        · have b6 : (v.1 == 6) = false := by simpa using h6
          have hk : kn1 n v = true := by rw [HK.out, hf, if_neg h4, if_neg h5, if_neg h6]; rfl
          rw [hk]
          clear hf hk HK h4 h5 h6
          go_enter Tryz.func56, Tryz.ntmps56
          go_wp2_with fail
          refine C.mono ?_; rintro e w2 ⟨rfl, hw2⟩; rw [hw2]; clear hw2 C
          go_wp2
          go_ret
          exact ⟨rfl, HB.out⟩
  · have hf' : fm v = false := by simpa using hf
    have hk : kn1 n v = false := by rw [HK.out, hf']; rfl
    rw [chk_no hf'] at C
    rw [hk]
    clear hf hf' hk HK
    go_enter Tryz.func56, Tryz.ntmps56
    go_wp2_with fail
    refine C.mono ?_; rintro e w2 ⟨rfl, hw2⟩; rw [hw2]; clear hw2 C
    go_wp2
    go_ret
    exact ⟨rfl, HB.out⟩
set_option maxRecDepth 20000 in
set_option maxHeartbeats 2000000 in
theorem table_any {w : World} {M S G cp T : Nat} (h : Mc w M S (.slice (some ⟨G, 0, none⟩) 1 cp)) (hG : w.cell? ⟨G, 0, none⟩ = some (.pointer (some ⟨T, 0, none⟩))) :
    Calls Tryz.prog 39 #[.pointer (some ⟨M, 0, none⟩), .int .i64 1] w fun e w' => e = .returned (.pointer (some ⟨T, 0, none⟩)) ∧ w' = w := by
  have m2 := h.c2
  clear h
  go_enter Tryz.func39, Tryz.ntmps39
  go_wp2
  go_ret
  exact ⟨rfl, rfl⟩
end Go.Proofs.YtpmmploedkbeoaaGreatDoor

/- What an operation on a table is handed. -/
namespace Go.Proofs.YtpmmploedkbeoaaGreatDoor
open Go.RowKit

/-- A list of values, to be read. -/
structure Vin (w : World) (a : Option Addr) (L : Nat) (F : Nat → V) : Prop where
  at' : ∀ i, i < L → ∃ lb off, a = some ⟨lb, off, none⟩ ∧ lb < w.heap.size ∧ w.cell? ⟨lb, off + i * 3, none⟩ = some (.int .i64 (F i).1) ∧ w.cell? ⟨lb, off + i * 3 + 1, none⟩ = some (.int .i64 (F i).2.1) ∧ w.cell? ⟨lb, off + i * 3 + 2, none⟩ = some (.string (F i).2.2)
theorem Vin.below {w w' : World} {a : Option Addr} {L : Nat} {F : Nat → V} (h : Vin w a L F) (k : Below w.heap.size w w') : Vin w' a L F := ⟨fun i hi => by
  obtain ⟨lb, off, e, hl, c0, c1, c2⟩ := h.at' i hi
  exact ⟨lb, off, e, Nat.lt_of_lt_of_le hl k.size, by rw [k.cell (by exact hl)]; exact c0, by rw [k.cell (by exact hl)]; exact c1, by rw [k.cell (by exact hl)]; exact c2⟩⟩
theorem Vin.none (w : World) (F : Nat → V) : Vin w none 0 F := ⟨fun _ hi => absurd hi (Nat.not_lt_zero _)⟩
theorem Vin.of {w : World} {B : Nat} {a : Option Addr} {L c : Nat} {F : Nat → V} (h : Lv w B (.slice a L c) L F) : Vin w a L F := ⟨fun i hi => by
  obtain ⟨g, cc, eq, _, lq, _, u0, u1, u2⟩ := h.at hi
  injection eq with eq1 eq2 eq3
  exact ⟨g, 0, eq1, lq, by rw [Nat.zero_add]; exact u0, by rw [Nat.zero_add]; exact u1, by rw [Nat.zero_add]; exact u2⟩⟩
/-- The first of a list that isn't known; as many as there are: each is. -/
def unk (n : Int) (F : Nat → V) : Nat → Bool
  | 0 => false
  | k + 1 => unk n F k || !kn1 n (F k)
theorem unk_mono {n : Int} {F : Nat → V} {i : Nat} (h : unk n F (i + 1) = true) : ∀ {L : Nat}, i < L → unk n F L = true
  | 0, hL => absurd hL (Nat.not_lt_zero _)
  | k + 1, hL => by
    by_cases e : i = k
    · subst e; exact h
    · rw [unk, unk_mono h (show i < k by omega)]; rfl
theorem enters64 : ∀ args w, (callFunc 64 args).run Tryz.prog w = .ok (.enter 64 args) w := enters_of Tryz.func64 (by kernel_rfl) rfl
set_option maxRecDepth 20000 in
set_option maxHeartbeats 2000000 in
theorem alien_any {w : World} {M S B : Nat} {x : Option Addr} {n cp : Nat} (h : Mc w M S (.slice x n cp)) (hB : w.cell? ⟨B, 0, none⟩ = some (.pointer (some ⟨M, 0, none⟩))) (v : V) :
    Calls Tryz.prog 64 #[vv v, .pointer (some ⟨B, 0, none⟩)] w fun e w' => e = .returned (.bool (!kn1 n v)) ∧ Below w.heap.size w w' := by
  have B0 := b1 w (vb v.1 v.2.1 v.2.2)
  have C := knows_any (h.below B0) v
  have X0 := Bx.made w v
  have hlt : B < w.heap.size := World.block_lt_of_cell? w _ hB
  have q0 := (B0.cell (p := ⟨B, 0, none⟩) hlt).trans hB
  obtain ⟨W0, hW0⟩ : ∃ W0, w.alloc (vb v.1 v.2.1 v.2.2) = W0 := ⟨_, rfl⟩
  rw [hW0] at B0 C X0 q0
  have y0 := X0.c0
  have y1 := X0.c1
  have y2 := X0.c2
  have HB : Hid (Below w.heap.size w W0) := B0
  unfold vb at hW0
  unfold vv vl at *
  clear h X0 B0 hlt
  go_enter Tryz.func64, Tryz.ntmps64
  go_wp2_with fail
  refine C.mono ?_; rintro e w2 ⟨rfl, hb2⟩
  have HB2 : Hid (Below w.heap.size w w2) := bthen HB.out HB.out.size hb2
  clear C hb2
  go_wp2
  go_ret
  exact ⟨rfl, HB2.out⟩
set_option maxRecDepth 20000 in
set_option maxHeartbeats 4000000 in
theorem index_any {w : World} {M S B : Nat} {x : Option Addr} {n cp : Nat} (h : Mc w M S (.slice x n cp)) (hB : w.cell? ⟨B, 0, none⟩ = some (.pointer (some ⟨M, 0, none⟩))) {a : Option Addr} {L c : Nat} {F : Nat → V} (hv : Vin w a L F) (hL : L ≤ 3) :
    Calls Tryz.prog 93 #[.slice a L c, .func (.func 64) #[] #[.pointer (some ⟨B, 0, none⟩)]] w fun e w' => (∃ i : Int, e = .returned (.int .i64 i) ∧ (0 ≤ i ↔ unk n F L = true)) ∧ Below w.heap.size w w' := by
  have HH : Hid (∀ W, Below w.heap.size w W → ∀ v, Calls Tryz.prog 64 #[.agg #[.int .i64 v.1, .int .i64 v.2.1, .string v.2.2], .pointer (some ⟨B, 0, none⟩)] W fun e w' => e = .returned (.bool (!kn1 n v)) ∧ Below W.heap.size W w') := fun W k v => by
    have hlt : B < w.heap.size := World.block_lt_of_cell? w _ hB
    exact alien_any (h.below k) ((k.cell (p := ⟨B, 0, none⟩) hlt).trans hB) v
  have HV : Hid (Vin w a L F) := hv
  have e64 := enters64
  clear h hB hv
  go_enter Tryz.func93, Tryz.ntmps93
  go_wp2_with fail
  go_loopw [8] (fun iw wr => ∃ i : Nat, iw = .int .i64 (i : Nat) ∧ i ≤ L ∧ Hid (unk n F i = false ∧ Below w.heap.size w wr)) (fun iw _ => L - (intOf iw).toNat)
  case atStart => exact ⟨0, rfl, by omega, rfl, Below.refl _ _⟩
  case round =>
    obtain ⟨i, rfl, hi, HR⟩ := hrel
    by_cases hlt : i < L
    · have hlt' : (i : Int) < (L : Int) := by omega
      obtain ⟨lb, off, rfl, hl, u0, u1, u2⟩ := (HV.out.below HR.out.2).at' i hlt
      have C := HH.out wr HR.out.2 (F i)
      have HU : Hid (unk n F (i + 1) = !kn1 n (F i)) := by
        show unk n F (i + 1) = _
        rw [unk, HR.out.1]; rfl
      have wi : IntKind.i64.wrap ((i : Int) + 1) = (i : Int) + 1 := by rw [IntKind.wrap_i64]; omega
      cases hk : kn1 n (F i)
      · rw [hk] at C HU
        have HT : Hid (unk n F L = true) := unk_mono HU.out hlt
        generalize F i = y at *
        clear hk HU
        go_wp2_with (go_at_fn 64; refine C.mono ?_; rintro e W4 ⟨rfl, hb4⟩; have HB4 : Hid (Below w.heap.size w W4) := bthen HR.out.2 HR.out.2.size hb4; clear hb4)
        go_ret
        exact ⟨⟨(i : Int), rfl, ⟨fun _ => HT.out, fun _ => by omega⟩⟩, HB4.out⟩
      · rw [hk] at C HU
        generalize F i = y at *
        clear hk
        go_wp2_with (go_at_fn 64; refine C.mono ?_; rintro e W4 ⟨rfl, hb4⟩; have HB4 : Hid (Below w.heap.size w W4) := bthen HR.out.2 HR.out.2.size hb4; clear hb4)
        go_round
        case rel => exact ⟨i + 1, by go_num, by omega, HU.out, HB4.out⟩
        case measure => simp [intOf]; omega
    · have e0 : i = L := by omega
      subst e0
      have hlt' : ¬ (i : Int) < (i : Int) := by omega
      go_wp2_with fail
      go_ret
      exact ⟨⟨-1, rfl, ⟨fun q => absurd q (by omega), fun q => by rw [HR.out.1] at q; cases q⟩⟩, HR.out.2⟩
theorem unk_all {n : Int} {F : Nat → V} : ∀ {L : Nat}, unk n F L = false → ∀ j, j < L → kn1 n (F j) = true
  | 0, _, j, hj => absurd hj (Nat.not_lt_zero _)
  | k + 1, h, j, hj => by
    rw [unk, Bool.or_eq_false_iff] at h
    by_cases e : j = k
    · subst e; simpa using h.2
    · exact unk_all h.1 j (by omega)
set_option maxRecDepth 20000 in
set_option maxHeartbeats 4000000 in
theorem contains_any {w : World} {M S B : Nat} {x : Option Addr} {n cp : Nat} (h : Mc w M S (.slice x n cp)) (hB : w.cell? ⟨B, 0, none⟩ = some (.pointer (some ⟨M, 0, none⟩))) {a : Option Addr} {L c : Nat} {F : Nat → V} (hv : Vin w a L F) (hL : L ≤ 3) :
    Calls Tryz.prog 57 #[.slice a L c, .func (.func 64) #[] #[.pointer (some ⟨B, 0, none⟩)]] w fun e w' => e = .returned (.bool (unk n F L)) ∧ Below w.heap.size w w' := by
  have C := index_any h hB (c := c) hv hL
  clear h hB hv
  cases hu : unk n F L
  · rw [hu] at C
    clear hu
    go_enter Tryz.func57, Tryz.ntmps57
    go_wp2_with fail
    refine C.mono ?_; rintro e w1 ⟨⟨i, rfl, hi⟩, hb⟩
    have HB1 : Hid (Below w.heap.size w w1) := hb
    have h0 : ¬ 0 ≤ i := fun q => by cases hi.1 q
    clear C hb hi
    go_wp2
    go_ret
    exact ⟨by simp [h0], HB1.out⟩
  · rw [hu] at C
    clear hu
    go_enter Tryz.func57, Tryz.ntmps57
    go_wp2_with fail
    refine C.mono ?_; rintro e w1 ⟨⟨i, rfl, hi⟩, hb⟩
    have HB1 : Hid (Below w.heap.size w w1) := hb
    have h0 : 0 ≤ i := by first | exact hi.2 trivial | exact hi.2 rfl
    clear C hb hi
    go_wp2
    go_ret
    exact ⟨by simp, HB1.out⟩
/-- An operation as it lies in block g. -/
structure Ob (w : World) (g : Nat) (k : Int) (nm : ByteArray) (v : Value) (p q : Int) : Prop where
  c0 : w.cell? ⟨g, 0, none⟩ = some (.int .i64 k)
  c1 : w.cell? ⟨g, 1, none⟩ = some (.string nm)
  c2 : w.cell? ⟨g, 2, none⟩ = some v
  c3 : w.cell? ⟨g, 3, none⟩ = some (.int .i64 p)
  c4 : w.cell? ⟨g, 4, none⟩ = some (.int .i64 q)
  lt : g < w.heap.size
theorem Ob.made (w : World) (k : Int) (nm : ByteArray) (v : Value) (p q : Int) : Ob (w.alloc (.cells #[.int .i64 k, .string nm, v, .int .i64 p, .int .i64 q] 48)) w.heap.size k nm v p q := by
  have h := (MapKept.heap_alloc w (.cells #[.int .i64 k, .string nm, v, .int .i64 p, .int .i64 q] 48)).1
  exact ⟨cell_of_row h 0, cell_of_row h 1, cell_of_row h 2, cell_of_row h 3, cell_of_row h 4, by simp⟩
theorem Ob.below {w w' : World} {g : Nat} {k : Int} {nm : ByteArray} {v : Value} {p q : Int} (h : Ob w g k nm v p q) (b : Below w.heap.size w w') : Ob w' g k nm v p q :=
  ⟨(b.cell (p := ⟨g, 0, none⟩) h.lt).trans h.c0, (b.cell (p := ⟨g, 1, none⟩) h.lt).trans h.c1, (b.cell (p := ⟨g, 2, none⟩) h.lt).trans h.c2, (b.cell (p := ⟨g, 3, none⟩) h.lt).trans h.c3, (b.cell (p := ⟨g, 4, none⟩) h.lt).trans h.c4, Nat.lt_of_lt_of_le h.lt b.size⟩
set_option maxRecDepth 20000 in
set_option maxHeartbeats 4000000 in
theorem handed_any {w : World} {M S : Nat} {x : Option Addr} {n cp : Nat} (h : Mc w M S (.slice x n cp)) {a : Option Addr} {L c : Nat} {F : Nat → V} (hv : Vin w a L F) (hLc : L ≤ c) (kd p q : Int) (nm : ByteArray) (hu : usesF kd = (L : Int)) (hL : L ≤ 3) (h0 : 1 ≤ L) (h4 : (F 0).1 = 4) :
    Calls Tryz.prog 38 #[.pointer (some ⟨M, 0, none⟩), .agg #[.int .i64 kd, .string nm, .slice a L c, .int .i64 p, .int .i64 q]] w fun e w' => e = .returned (.tuple #[if unk n F L then .slice none 0 0 else .slice a L c, .int .i64 (if unk n F L then 2 else 0)]) ∧ Below w.heap.size w w' := by
  have B0 := b1 w (.cells #[.pointer (some ⟨M, 0, none⟩)] 43)
  have m0 : (w.alloc (.cells #[.pointer (some ⟨M, 0, none⟩)] 43)).cell? ⟨w.heap.size, 0, none⟩ = some (.pointer (some ⟨M, 0, none⟩)) := cell_of_row (MapKept.heap_alloc w _).1 0
  have z0 : (w.alloc (.cells #[.pointer (some ⟨M, 0, none⟩)] 43)).heap.size = w.heap.size + 1 := by simp
  have B1 := b1 (w.alloc (.cells #[.pointer (some ⟨M, 0, none⟩)] 43)) (.cells #[.int .i64 kd, .string nm, .slice a L c, .int .i64 p, .int .i64 q] 48)
  have O1 := Ob.made (w.alloc (.cells #[.pointer (some ⟨M, 0, none⟩)] 43)) kd nm (.slice a L c) p q
  have m1 := (B1.cell (p := ⟨w.heap.size, 0, none⟩) (by rw [z0]; exact Nat.lt_succ_self _)).trans m0
  have BB := B0.trans (B1.mono B0.size)
  rw [z0] at O1
  obtain ⟨W1, hW1⟩ : ∃ W1, (w.alloc (.cells #[.pointer (some ⟨M, 0, none⟩)] 43)).alloc (.cells #[.int .i64 kd, .string nm, .slice a L c, .int .i64 p, .int .i64 q] 48) = W1 := ⟨_, rfl⟩
  rw [hW1] at O1 m1 BB
  have CU := uses_any kd W1
  rw [hu] at CU
  have CK := contains_any (h.below BB) m1 (c := c) (hv.below BB) hL
  have o0 := O1.c0
  have o2 := O1.c2
  have HB : Hid (Below w.heap.size w W1) := BB
  obtain ⟨lb, off, rfl, hlb, u0, u1, u2⟩ := hv.at' 0 (by omega)
  rw [Nat.zero_mul, Nat.add_zero, h4] at u0
  have HU : Hid (∀ W, Below w.heap.size w W → W.cell? ⟨lb, off, none⟩ = some (.int .i64 4)) := fun W k => (k.cell (p := ⟨lb, off, none⟩) hlb).trans u0
  have HO : Hid (Ob W1 (w.heap.size + 1) kd nm (.slice (some ⟨lb, off, none⟩) L c) p q) := O1
  have hL0 : ¬ (L : Int) < (L : Int) := by omega
  have hL1 : (0 : Int) < (L : Int) := by omega
  have hLc2 : (L : Int) ≤ (c : Int) := by omega
  have hc0 : ¬ (c : Int) < (L : Int) := by omega
  clear B0 m0 z0 B1 O1 m1 BB h hv hlb u0 u1 u2
  cases hk : unk n F L
  · rw [hk] at CK
    simp only [Bool.false_eq_true, if_false]
    clear hk
    go_enter Tryz.func38, Tryz.ntmps38
    go_wp2_with fail
    refine CU.mono ?_; rintro e w2 ⟨rfl, hw2⟩; rw [hw2]; clear hw2 CU
    go_wp2_with fail
    refine CK.mono ?_; rintro e w3 ⟨rfl, hb3⟩
    have v0 := HU.out w3 (bthen HB.out HB.out.size hb3)
    have HB3 : Hid (Below w.heap.size w w3) := bthen HB.out HB.out.size hb3
    clear CK hb3
    go_wp2_with fail
    go_ret2
    exact ⟨rfl, HB3.out⟩
  · rw [hk] at CK
    simp only [if_true]
    clear hk
    go_enter Tryz.func38, Tryz.ntmps38
    go_wp2_with fail
    refine CU.mono ?_; rintro e w2 ⟨rfl, hw2⟩; rw [hw2]; clear hw2 CU
    go_wp2_with fail
    refine CK.mono ?_; rintro e w3 ⟨rfl, hb3⟩
    have HB3 : Hid (Below w.heap.size w w3) := bthen HB.out HB.out.size hb3
    clear CK hb3
    go_wp2_with fail
    go_ret2
    exact ⟨rfl, HB3.out⟩
end Go.Proofs.YtpmmploedkbeoaaGreatDoor

/- The pure part of a table, on: a Set is a map's. -/
namespace Go.Proofs.YtpmmploedkbeoaaGreatDoor
open Go.RowKit

theorem tset_map {t : TS} {s : H.St} {k v : V} (h : TI t.p) (hr : Rng k) :
    ((tset t s k v).2.2 = 0 → KOK k ∧ fm v = true ∧ pget (tset t s k v).1.p k = v ∧ ∀ k', KOK k' → k' ≠ k → pget (tset t s k v).1.p k' = pget t.p k') ∧
    ((tset t s k v).2.2 ≠ 0 → ∀ k', pget (tset t s k v).1.p k' = pget t.p k') := by
  unfold tset
  by_cases hf : fm k = true ∧ fm v = true
  · rw [if_neg (fun q => q hf)]
    by_cases hk0 : k.1 = 0
    · rw [if_pos hk0]
      exact ⟨fun q => absurd (show (9 : Int) = 0 from q) (by decide), fun _ _ => rfl⟩
    · rw [if_neg hk0]
      have hk : KOK k := ⟨hf.1, hk0, hr.1, hr.2⟩
      by_cases he : (pset t.p k v).2.2 = 12
      · rw [if_neg (fun q => q he)]
        obtain ⟨hA, hv, hv0, hnew, hfull, hg, hp, ha⟩ := h.full hk he
        have hb : ∀ k', pget (pset t.p k v).1 k' = pget t.p k' := pset_bad (by rw [he]; decide)
        have h1 : TI (pset t.p k v).1 := h.set hr hv
        have ep : (one t k v).p = (pset t.p k v).1 := rfl
        have hA1 : ¬ inA (pset t.p k v).1.n k := by rw [(pset_nz t.p k v).1]; exact hA
        have hnew1 : ∀ i, i < (pset t.p k v).1.z → (pset t.p k v).1.g.K i ≠ k := fun i hi e => by
          have hz := (pset_nz t.p k v).2
          rw [hz] at hi
          have e1 : pset t.p k v = ({ t.p with g := (put t.p.z t.p.g k v).1 }, (put t.p.z t.p.g k v).2.1, (put t.p.z t.p.g k v).2.2) := by unfold pset; rw [if_neg hA]
          have he' : (put t.p.z t.p.g k v).2.2 = 12 := by rw [e1] at he; exact he
          have e2 := (put_12 h.inv h.rt hk he').2.2.2.2.1
          rw [e1] at e
          have e3 : (put t.p.z t.p.g k v).1.K i = k := e
          rw [e2] at e3
          exact hnew i hi e3
        generalize one t k v = u at *
        by_cases hR : (reh u s k).2.2 = 0
        · rw [if_neg (fun q => q hR)]
          have e0 : rsE u.p k = 0 := by
            unfold reh at hR
            by_cases q : rsE u.p k = 0
            · exact q
            · rw [if_pos q] at hR; exact absurd hR q
          have e1 : (reh u s k).1.p = fill u.p (fresh (rsA u.p k) (rsZ u.p k)) := by
            unfold reh at hR ⊢
            rw [if_neg (fun q => q e0)] at hR ⊢
            by_cases q : tpE s (rsA u.p k) (rsZ u.p k) = 0
            · rw [if_neg (fun x => x q)]
            · rw [if_pos q] at hR; exact absurd hR q
          rw [← ep] at ha h1 hA1 hnew1 hb
          obtain ⟨_, i1, i2, i3, i4, i5⟩ := h1.behind hk hv hv0 hA1 hnew1 ha e0
          rw [e1]
          obtain ⟨m1, m2⟩ := i1.map hk i5
          exact ⟨fun _ => ⟨hk, hv, m1, fun k' hk' hne => (m2 k' hk' hne).trans ((i4 k' hk').trans (hb k'))⟩, fun q => absurd i5 q⟩
        · rw [if_pos hR]
          refine ⟨fun q => absurd q hR, fun _ k' => ?_⟩
          have e1 : (reh u s k).1 = u := by
            unfold reh at hR ⊢
            by_cases q : rsE u.p k = 0
            · rw [if_neg (fun x => x q)] at hR ⊢
              by_cases q2 : tpE s (rsA u.p k) (rsZ u.p k) = 0
              · rw [if_neg (fun x => x q2)] at hR; exact absurd rfl hR
              · rw [if_pos q2]
            · rw [if_pos q]
          rw [e1, ep]
          exact hb k'
      · rw [if_pos he]
        refine ⟨fun q => ?_, fun q k' => pset_bad q k'⟩
        obtain ⟨m1, m2⟩ := h.map hk q
        exact ⟨hk, hf.2, m1, m2⟩
  · rw [if_pos hf]
    exact ⟨fun q => absurd (show (2 : Int) = 0 from q) (by decide), fun _ _ => rfl⟩
end Go.Proofs.YtpmmploedkbeoaaGreatDoor

/- The pure part of a heap, on: which block is whose; what a table holds of it. -/
namespace Go.Proofs.YtpmmploedkbeoaaGreatDoor
open Go.RowKit

/-- The block id is taken and has n cells; or there is none, for no cells. -/
def Blk (s : H.St) (id n : Int) : Prop := (n = 0 ∧ id = 0) ∨ (1 ≤ n ∧ ∃ k : Nat, id = (k : Int) + 1 ∧ s.bl[k]? = some (n, true))
theorem setT_at {l : List (Int × Bool)} {k : Nat} {n : Int} {b : Bool} (h : l[k]? = some (n, b)) (t : Bool) (j : Nat) : (H.setT l k t)[j]? = if j = k then some (n, t) else l[j]? := by
  have hk : k < l.length := (List.getElem?_eq_some_iff.1 h).1
  have e : l.getD k (0, false) = (n, b) := by rw [List.getD, h]; rfl
  unfold H.setT
  rw [e, List.getElem?_set]
  by_cases q : k = j
  · rw [if_pos q, if_pos hk, if_pos q.symm]
  · rw [if_neg q, if_neg (fun e => q e.symm)]
theorem blk_take {sp : Int} {s : H.St} {n : Int} (h : H.Inv sp s) (he : H.takeE s n = 0) :
    Blk (H.takeSt s n) (H.takeId s n) n ∧ (H.takeSt s n).live = s.live + n ∧ (H.takeSt s n).lim = s.lim ∧ ∀ id m, Blk s id m → Blk (H.takeSt s n) id m ∧ (id = H.takeId s n → id = 0) := by
  have h0 : ¬ n < 0 := fun q => by unfold H.takeE at he; rw [if_pos q] at he; cases he
  have h1 : ¬ s.lim - s.live < n := fun q => by unfold H.takeE at he; rw [if_neg h0, if_pos q] at he; cases he
  by_cases hz : n = 0
  · have e1 : H.takeSt s n = s := by unfold H.takeSt; rw [if_neg h0, if_neg h1, if_pos hz]
    have e2 : H.takeId s n = 0 := by unfold H.takeId; rw [if_neg h0, if_neg h1, if_pos hz]
    rw [e1, e2]
    exact ⟨.inl ⟨hz, rfl⟩, by omega, rfl, fun id m q => ⟨q, fun e => e⟩⟩
  · rcases List.eq_nil_or_concat (s.R n) with hR | ⟨zs, x, hR⟩
    · obtain ⟨e1, e2, _⟩ := H.take_new (s := s) (n := n) (by omega) (by omega) hR
      rw [e1, e2]
      refine ⟨.inr ⟨by omega, s.bl.length, rfl, by simp⟩, rfl, rfl, fun id m q => ?_⟩
      rcases q with ⟨q1, q2⟩ | ⟨q1, k, q2, q3⟩
      · exact ⟨.inl ⟨q1, q2⟩, fun e => by omega⟩
      · have hk : k < s.bl.length := (List.getElem?_eq_some_iff.1 q3).1
        exact ⟨.inr ⟨q1, k, q2, by show (s.bl ++ [(n, true)])[k]? = _; rw [List.getElem?_append_left hk]; exact q3⟩, fun e => by omega⟩
    · rw [List.concat_eq_append] at hR
      obtain ⟨k, rfl, hk, hb⟩ := h.ids n x (by rw [hR]; simp)
      obtain ⟨e1, e2, _⟩ := H.take_old (s := s) (n := n) (by omega) (by omega) hR
      have hb' : s.bl[k]? = some (n, false) := by rw [List.getElem?_eq_getElem hk, hb]
      rw [e1, e2]
      refine ⟨.inr ⟨by omega, k, rfl, by show (H.setT s.bl k true)[k]? = _; rw [setT_at hb', if_pos rfl]⟩, rfl, rfl, fun id m q => ?_⟩
      rcases q with ⟨q1, q2⟩ | ⟨q1, k', q2, q3⟩
      · exact ⟨.inl ⟨q1, q2⟩, fun e => by omega⟩
      · have hne : k' ≠ k := fun e => by rw [e, hb'] at q3; cases q3
        exact ⟨.inr ⟨q1, k', q2, by show (H.setT s.bl k true)[k']? = _; rw [setT_at hb', if_neg hne]; exact q3⟩, fun e => by omega⟩
theorem blk_give {s : H.St} {id n : Int} (h : Blk s id n) : (H.giveSt s id).live = s.live - n ∧ (H.giveSt s id).lim = s.lim ∧ ∀ id' m, Blk s id' m → (id' = id → id' = 0) → Blk (H.giveSt s id) id' m := by
  rcases h with ⟨rfl, rfl⟩ | ⟨h1, k, rfl, hb⟩
  · rw [(H.give_zero s).2]
    exact ⟨by omega, rfl, fun _ _ q _ => q⟩
  · have hk : k < s.bl.length := (List.getElem?_eq_some_iff.1 hb).1
    have hb2 : s.bl[k]'hk = (n, true) := (List.getElem?_eq_some_iff.1 hb).2
    rw [(H.give_at hk (by rw [hb2])).2]
    refine ⟨by show s.live - (s.bl[k]'hk).1 = _; rw [hb2], rfl, fun id' m q hne => ?_⟩
    rcases q with q | ⟨q1, k', q2, q3⟩
    · exact .inl q
    · have hne' : k' ≠ k := fun e => by have := hne (by omega); omega
      exact .inr ⟨q1, k', q2, by show (H.setT s.bl k false)[k']? = _; rw [setT_at hb, if_neg hne']; exact q3⟩

theorem flA_nz (old : Pa) (s : Nat) (p : Pa) (m : Nat) : (flA old s p m).n = p.n ∧ (flA old s p m).z = p.z := by
  induction m with
  | zero => exact ⟨rfl, rfl⟩
  | succ m ih => rw [flA, (stp_nz _ _ _).1, (stp_nz _ _ _).2]; exact ih
theorem flH_nz (old p : Pa) (m : Nat) : (flH old p m).n = p.n ∧ (flH old p m).z = p.z := by
  induction m with
  | zero => exact ⟨rfl, rfl⟩
  | succ m ih => rw [flH, (stp_nz _ _ _).1, (stp_nz _ _ _).2]; exact ih
theorem fill_nz (old p : Pa) : (fill old p).n = p.n ∧ (fill old p).z = p.z := by
  unfold fill
  rw [(flH_nz _ _ _).1, (flH_nz _ _ _).2, (flA_nz _ _ _ _).1, (flA_nz _ _ _ _).2]
  exact ⟨rfl, rfl⟩

/-- What a table holds of the heap s: its two parts' blocks, and L cells beside them are taken. -/
structure TB (t : TS) (s : H.St) (L : Int) : Prop where
  b1 : Blk s t.sb (t.p.n : Nat)
  b2 : Blk s t.nb (3 * (t.p.z : Nat))
  ne : t.sb = t.nb → t.sb = 0
  live : s.live = L + (t.p.n : Nat) + 3 * (t.p.z : Nat)
theorem tp_cases (s : H.St) (A Z : Int) : (H.takeE s A ≠ 0 ∧ tpE s A Z = H.takeE s A ∧ tpS s A Z = s) ∨
    (H.takeE s A = 0 ∧ H.takeE (H.takeSt s A) (3 * Z) ≠ 0 ∧ tpE s A Z = H.takeE (H.takeSt s A) (3 * Z) ∧ tpS s A Z = H.giveSt (H.takeSt s A) (H.takeId s A)) ∨
    (H.takeE s A = 0 ∧ H.takeE (H.takeSt s A) (3 * Z) = 0 ∧ tpE s A Z = 0 ∧ tpS s A Z = H.takeSt (H.takeSt s A) (3 * Z)) := by
  unfold tpE tpS
  by_cases h : H.takeE s A = 0
  · right
    rw [if_neg (fun q => q h), if_neg (fun q => q h)]
    by_cases h2 : H.takeE (H.takeSt s A) (3 * Z) = 0
    · right; rw [if_neg (fun q => q h2)]; exact ⟨h, h2, h2, rfl⟩
    · left; rw [if_pos h2]; exact ⟨h, h2, rfl, rfl⟩
  · left; rw [if_pos h, if_pos h]; exact ⟨h, rfl, rfl⟩
theorem TB.reh {t : TS} {s : H.St} {L : Int} (h : TB t s L) (iv : H.Inv 0 s) (k : V) : TB (Proofs.YtpmmploedkbeoaaGreatDoor.reh t s k).1 (Proofs.YtpmmploedkbeoaaGreatDoor.reh t s k).2.1 L ∧ (Proofs.YtpmmploedkbeoaaGreatDoor.reh t s k).2.1.lim = s.lim := by
  unfold Proofs.YtpmmploedkbeoaaGreatDoor.reh
  by_cases he : rsE t.p k = 0
  · rw [if_neg (fun q => q he)]
    generalize rsA t.p k = A
    generalize rsZ t.p k = Z
    rcases tp_cases s (A : Nat) (Z : Nat) with ⟨q1, q2, q3⟩ | ⟨q1, q2, q3, q4⟩ | ⟨q1, q2, q3, q4⟩
    · rw [if_pos (by rw [q2]; exact q1), q3]
      exact ⟨h, rfl⟩
    · rw [if_pos (by rw [q3]; exact q2), q4]
      obtain ⟨a1, a2, a3, a4⟩ := blk_take iv q1
      obtain ⟨g1, g2, g3⟩ := blk_give a1
      have k1 := a4 _ _ h.b1
      have k2 := a4 _ _ h.b2
      exact ⟨⟨g3 _ _ k1.1 k1.2, g3 _ _ k2.1 k2.2, h.ne, by show (H.giveSt (H.takeSt s (A : Nat)) (H.takeId s (A : Nat))).live = L + (t.p.n : Nat) + 3 * (t.p.z : Nat); rw [g1, a2, h.live]; omega⟩, by show (H.giveSt (H.takeSt s (A : Nat)) (H.takeId s (A : Nat))).lim = s.lim; rw [g2, a3]⟩
    · rw [if_neg (fun q => q q3), q4]
      obtain ⟨a1, a2, a3, a4⟩ := blk_take iv q1
      obtain ⟨c1, c2, c3, c4⟩ := blk_take (iv.take _) q2
      have k1 := a4 _ _ h.b1
      have k2 := a4 _ _ h.b2
      have m1 := c4 _ _ k1.1
      have m2 := c4 _ _ k2.1
      have m3 := c4 _ _ a1
      obtain ⟨g1, g2, g3⟩ := blk_give m1.1
      have n2 := g3 _ _ m2.1 (fun e => by have := h.ne e.symm; omega)
      have n3 := g3 _ _ m3.1 (fun e => by have := k1.2 e.symm; omega)
      have n4 := g3 _ _ c1 (fun e => by have := m1.2 e.symm; omega)
      obtain ⟨f1, f2, f3⟩ := blk_give n2
      have p3 := f3 _ _ n3 (fun e => by have := k2.2 e.symm; omega)
      have p4 := f3 _ _ n4 (fun e => by have := m2.2 e.symm; omega)
      obtain ⟨z1, z2⟩ := fill_nz t.p (fresh A Z)
      have z1' : (fill t.p (fresh A Z)).n = A := z1
      have z2' : (fill t.p (fresh A Z)).z = Z := z2
      refine ⟨⟨?_, ?_, fun e => m3.2 e, ?_⟩, by rw [f2, g2, c3, a3]⟩
      · show Blk _ _ ((fill t.p (fresh A Z)).n : Nat); rw [z1']; exact p3
      · show Blk _ _ (3 * ((fill t.p (fresh A Z)).z : Nat)); rw [z2']; exact p4
      · show _ = L + ((fill t.p (fresh A Z)).n : Nat) + 3 * ((fill t.p (fresh A Z)).z : Nat)
        rw [z1', z2', f1, g1, c2, a2, h.live]; omega
  · rw [if_pos he]; exact ⟨h, rfl⟩
theorem TB.one {t : TS} {s : H.St} {L : Int} (h : TB t s L) (k v : V) (x : Int) : TB { t with p := (pset t.p k v).1, pr := x } s L := by
  obtain ⟨z1, z2⟩ := pset_nz t.p k v
  exact ⟨by show Blk s t.sb ((pset t.p k v).1.n : Nat); rw [z1]; exact h.b1, by show Blk s t.nb (3 * ((pset t.p k v).1.z : Nat)); rw [z2]; exact h.b2, h.ne, by show _ = L + ((pset t.p k v).1.n : Nat) + 3 * ((pset t.p k v).1.z : Nat); rw [z1, z2]; exact h.live⟩
theorem TB.set {t : TS} {s : H.St} {L : Int} (h : TB t s L) (iv : H.Inv 0 s) (k v : V) : TB (tset t s k v).1 (tset t s k v).2.1 L ∧ (tset t s k v).2.1.lim = s.lim := by
  unfold tset
  split
  · exact ⟨h, rfl⟩
  · split
    · exact ⟨h, rfl⟩
    · split
      · exact ⟨h.one k v _, rfl⟩
      · obtain ⟨r1, r2⟩ := (show TB (Proofs.YtpmmploedkbeoaaGreatDoor.one t k v) s L from h.one k v _).reh iv k
        split
        · exact ⟨r1, r2⟩
        · exact ⟨r1.one k v _, r2⟩
end Go.Proofs.YtpmmploedkbeoaaGreatDoor

/- The pure part of a table, on: keys that follow one another, none of them small. -/
namespace Go.Proofs.YtpmmploedkbeoaaGreatDoor
open Go.RowKit

/-- The census has no error where few keys are present. -/
theorem rsE_few {p : Pa} {k : V} (h : ∀ k', k' ∈ pres p ++ [k] → KOK k') (hn : (pres p ++ [k]).Nodup) (hl : (pres p ++ [k]).length ≤ 65536) : rsE p k = 0 := by
  rcases cens h hn with q | q
  · exfalso
    unfold rsE at q
    generalize pres p ++ [k] = l at *
    have hf := ints_fit h
    have hd := (C.dense_of (ints l) hf).n
    have hw := (C.wi_bound (ints l) (C.chA (C.cntL (ints l)) 17)).1
    have hc := ints_len l
    unfold C.szE at q
    rw [if_neg (by omega), if_neg (by simpa using ints_nd h hn)] at q
    have : ¬ (65536 < ((oth l : Nat) : Int) ∨ 65536 < ((oth l : Nat) : Int) + C.rest (ints l)) := by unfold C.rest; omega
    rw [if_neg this] at q
    cases q
  · exact q.1
theorem up2_le (n : Int) (h0 : 0 ≤ n) (h1 : n ≤ 1024) : C.up2 n ≤ 1024 := by
  unfold C.up2
  by_cases q : n = 0
  · rw [if_pos q]; omega
  · rw [if_neg q]
    obtain ⟨a, b, c⟩ := C.lgN_spec n (by omega) (by omega)
    have hl : C.lgN n ≤ 10 := by
      rcases b with b | b
      · omega
      · rcases Nat.lt_or_ge 10 (C.lgN n) with q | q
        · have := Nat.pow_le_pow_right (n := 2) (by omega) (show 10 ≤ C.lgN n - 1 by omega)
          omega
        · exact q
    unfold C.cl
    have h2 := Nat.pow_le_pow_right (n := 2) (by omega) hl
    have e : ((2 : Int) ^ C.lgN n) = ((2 ^ C.lgN n : Nat) : Int) := by simp
    rw [e]; omega

/-- j keys are in, b + 1 to b + j; none has a slot. -/
structure RW (b : Int) (j : Nat) (t : TS) (s : H.St) : Prop where
  n0 : t.p.n = 0
  tb : TB t s 4
  lim : s.lim = 400000
  zb : t.p.z ≤ 1024
  keys : ∀ i, i < t.p.z → t.p.g.K i = nil ∨ ∃ q : Nat, 1 ≤ q ∧ q ≤ j ∧ t.p.g.K i = kn (b + q)
  get : ∀ q : Nat, 1 ≤ q → q ≤ j → pget t.p (kn (b + q)) = kn q
theorem kn_inj {a b : Int} (h : kn a = kn b) : a = b := by simpa using h
theorem KOK_row {b : Int} {q : Nat} (h0 : 0 ≤ b) (h1 : b < 4611686018427387904) (hq : q ≤ 701) : KOK (kn (b + q)) := by
  refine ⟨by simp [inF, ByteArray.toList_eq], by simp, by simp; omega, by simp; omega⟩
theorem fm_kn (n : Int) : fm (kn n) = true := by simp [fm, inF, ByteArray.toList_eq]
theorem not_inA0 (k : V) : ¬ inA 0 k := fun h => by have := h.2.2; omega
theorem RW.pres_len {b : Int} {j : Nat} {t : TS} {s : H.St} (h : RW b j t s) (ti : TI t.p) : (pres t.p).length ≤ j ∧ ∀ k, k ∈ pres t.p → ∃ q : Nat, 1 ≤ q ∧ q ≤ j ∧ k = kn (b + q) := by
  have hm : ∀ k, k ∈ pres t.p → ∃ q : Nat, 1 ≤ q ∧ q ≤ j ∧ k = kn (b + q) := fun k hk => by
    rw [pres, h.n0, List.mem_append] at hk
    rcases hk with hk | hk
    · cases hk
    · obtain ⟨i, hi, hx, rfl⟩ := mem_kH.1 hk
      exact (h.keys i hi).resolve_left (ti.live hi hx).1
  refine ⟨?_, hm⟩
  have hnd : ((pres t.p).map fun k => (k.2.1 - b - 1).toNat).Nodup := by
    unfold List.Nodup
    rw [List.pairwise_map]
    refine List.Pairwise.imp_of_mem ?_ ti.pres_nd
    intro k k' hk hk' hne e
    obtain ⟨q, q1, q2, rfl⟩ := hm k hk
    obtain ⟨q', q1', q2', rfl⟩ := hm k' hk'
    have e' : (b + (q : Int) - b - 1).toNat = (b + (q' : Int) - b - 1).toNat := e
    exact hne (by rw [show q = q' by omega])
  have := nodup_len (z := j) hnd (fun x hx => by
    obtain ⟨k, hk, rfl⟩ := List.mem_map.1 hx
    obtain ⟨q, q1, q2, rfl⟩ := hm k hk
    show (b + (q : Int) - b - 1).toNat < j
    omega)
  simpa using this

theorem RW.step {b : Int} {j m : Nat} {t : TS} {s : H.St} (h : RW b j t s) (ti : TI t.p) (iv : H.Inv 0 s) (hj : j + 1 ≤ m) (hm : m ≤ 700) (hb : 2 * (m : Int) ≤ b) (hb2 : b < 4611686018427387904) :
    (tset t s (kn (b + (j + 1 : Nat))) (kn ((j + 1 : Nat)))).2.2 = 0 ∧ RW b (j + 1) (tset t s (kn (b + (j + 1 : Nat))) (kn (j + 1 : Nat))).1 (tset t s (kn (b + (j + 1 : Nat))) (kn (j + 1 : Nat))).2.1 := by
  have hk : KOK (kn (b + (j + 1 : Nat))) := KOK_row (by omega) hb2 (by omega)
  have hv := fm_kn ((j + 1 : Nat) : Int)
  have hr : Rng (kn (b + (j + 1 : Nat))) := ⟨hk.2.2.1, hk.2.2.2⟩
  have hv0 : (kn ((j + 1 : Nat) : Int)).1 ≠ 0 := by simp
  obtain ⟨htb, hlim⟩ := h.tb.set iv (kn (b + (j + 1 : Nat))) (kn (j + 1 : Nat))
  obtain ⟨mp1, mp2⟩ := tset_map (s := s) (k := kn (b + (j + 1 : Nat))) (v := kn (j + 1 : Nat)) ti hr
  obtain ⟨hpl, hpm⟩ := h.pres_len ti
  have hold : ∀ q : Nat, 1 ≤ q → q ≤ j → kn (b + q) ≠ kn (b + (j + 1 : Nat)) := fun q _ q2 e => by have := kn_inj e; omega
  -- what is left to show
  have key : (tset t s (kn (b + (j + 1 : Nat))) (kn (j + 1 : Nat))).2.2 = 0 ∧ (tset t s (kn (b + (j + 1 : Nat))) (kn (j + 1 : Nat))).1.p.n = 0 ∧ (tset t s (kn (b + (j + 1 : Nat))) (kn (j + 1 : Nat))).1.p.z ≤ 1024 ∧
      ∀ i, i < (tset t s (kn (b + (j + 1 : Nat))) (kn (j + 1 : Nat))).1.p.z → (tset t s (kn (b + (j + 1 : Nat))) (kn (j + 1 : Nat))).1.p.g.K i = nil ∨ ∃ q : Nat, 1 ≤ q ∧ q ≤ j + 1 ∧ (tset t s (kn (b + (j + 1 : Nat))) (kn (j + 1 : Nat))).1.p.g.K i = kn (b + q) := by
    clear mp1 mp2 htb hlim
    generalize hkk : kn (b + (j + 1 : Nat)) = k at *
    generalize kn ((j + 1 : Nat) : Int) = v at *
    have hA : ¬ inA t.p.n k := by rw [h.n0]; exact not_inA0 k
    have ep : pset t.p k v = ({ t.p with g := (put t.p.z t.p.g k v).1 }, (put t.p.z t.p.g k v).2.1, (put t.p.z t.p.g k v).2.2) := by unfold pset; rw [if_neg hA]
    unfold tset
    rw [if_neg (fun q => q ⟨hk.1, hv⟩), if_neg hk.2.1]
    by_cases he : (pset t.p k v).2.2 = 12
    · rw [if_neg (fun q => q he)]
      obtain ⟨_, _, _, hnew, hfull, hg, hp, ha⟩ := ti.full hk he
      have h1 : TI (pset t.p k v).1 := ti.set hr hv
      have hA1 : ¬ inA (pset t.p k v).1.n k := by rw [(pset_nz t.p k v).1]; exact hA
      have hnew1 : ∀ i, i < (pset t.p k v).1.z → (pset t.p k v).1.g.K i ≠ k := fun i hi e => by
        rw [(pset_nz t.p k v).2] at hi
        have he' : (put t.p.z t.p.g k v).2.2 = 12 := by rw [ep] at he; exact he
        have e2 := (put_12 ti.inv ti.rt hk he').2.2.2.2.1
        rw [ep] at e
        have e3 : (put t.p.z t.p.g k v).1.K i = k := e
        rw [e2] at e3
        exact hnew i hi e3
      have hop : (one t k v).p = (pset t.p k v).1 := rfl
      have hos : (one t k v).sb = t.sb ∧ (one t k v).nb = t.nb := ⟨rfl, rfl⟩
      rw [← hop] at ha h1 hA1 hnew1 hp
      generalize one t k v = u at *
      have hlen : (pres u.p ++ [k]).length ≤ j + 1 := by rw [hp]; simp; omega
      have e0 := rsE_few ha.ok ha.nd (by omega)
      obtain ⟨F, i1, i2, i3, i4, i5⟩ := h1.behind hk hv hv0 hA1 hnew1 ha e0
      have hmem : ∀ k', k' ∈ pres u.p ++ [k] → ∃ q : Nat, 1 ≤ q ∧ q ≤ j + 1 ∧ k' = kn (b + q) := fun k' hk' => by
        rw [hp] at hk'
        rcases List.mem_append.1 hk' with q | q
        · obtain ⟨r, r1, r2, r3⟩ := hpm k' q
          exact ⟨r, r1, by omega, r3⟩
        · exact ⟨j + 1, by omega, by omega, by rw [List.mem_singleton.1 q, hkk]⟩
      have hA0 : rsA u.p k = 0 := by
        by_cases q : rsA u.p k = 0
        · exact q
        · exfalso
          have hh := F.dense.half (by omega)
          have hw := C.wi_bound (ints (pres u.p ++ [k])) (rsA u.p k)
          have hc := ints_len (pres u.p ++ [k])
          have hpos : 0 < C.wi (ints (pres u.p ++ [k])) (rsA u.p k) := by omega
          unfold C.wi at hpos
          have hp2 : 0 < (ints (pres u.p ++ [k])).countP (fun x => decide (1 ≤ x ∧ x ≤ ((rsA u.p k : Nat) : Int))) := by omega
          obtain ⟨x, hx, hx2⟩ := List.countP_pos_iff.1 hp2
          obtain ⟨k', hk', _, hx3⟩ := ints_mem hx
          obtain ⟨r, r1, r2, rfl⟩ := hmem k' hk'
          have hx3' : b + (r : Int) = x := hx3
          simp at hx2
          omega
      have hZ : rsZ u.p k ≤ 1024 := by
        have hup := F.up
        have ho : outK (rsA u.p k) (pres u.p ++ [k]) ≤ (pres u.p ++ [k]).length := List.countP_le_length
        have := up2_le (outK (rsA u.p k) (pres u.p ++ [k]) : Nat) (by omega) (by omega)
        omega
      have hlv := h.tb.live
      have hn0 := h.n0
      have hzb := h.zb
      have hl := h.lim
      have t1 : H.takeE s ((rsA u.p k : Nat) : Int) = 0 := by
        unfold H.takeE
        rw [if_neg (by omega), if_neg (by omega)]
      have ts : H.takeSt s ((rsA u.p k : Nat) : Int) = s := by
        rw [hA0]
        unfold H.takeSt
        rw [if_neg (by omega), if_neg (by omega), if_pos (by omega)]
      have t2 : H.takeE (H.takeSt s ((rsA u.p k : Nat) : Int)) (3 * ((rsZ u.p k : Nat) : Int)) = 0 := by
        rw [ts]
        unfold H.takeE
        rw [if_neg (by omega), if_neg (by omega)]
      have et : tpE s (rsA u.p k : Nat) (rsZ u.p k : Nat) = 0 := by unfold tpE; rw [if_neg (fun q => q t1), t2]
      have hroom : outK (rsA u.p k) (pres u.p) ≤ rsZ u.p k := by have := F.room; rw [outK_app] at this; omega
      obtain ⟨_, _, _, _, _, f6⟩ := h1.filled F.a F.z hroom
      have er : (Proofs.YtpmmploedkbeoaaGreatDoor.reh u s k).2.2 = 0 ∧ (Proofs.YtpmmploedkbeoaaGreatDoor.reh u s k).1.p = fill u.p (fresh (rsA u.p k) (rsZ u.p k)) := by
        unfold Proofs.YtpmmploedkbeoaaGreatDoor.reh
        rw [if_neg (fun q => q e0), if_neg (fun q => q et)]
        exact ⟨rfl, rfl⟩
      rw [if_neg (fun q => q er.1), er.2]
      refine ⟨i5, ?_, ?_, ?_⟩
      · show (pset _ k v).1.n = 0
        rw [(pset_nz _ k v).1, i2, hA0]
      · show (pset _ k v).1.z ≤ 1024
        rw [(pset_nz _ k v).2, i3]; exact hZ
      · intro i hi
        have hi' : i < rsZ u.p k := by
          have : (pset (fill u.p (fresh (rsA u.p k) (rsZ u.p k))) k v).1.z = rsZ u.p k := by rw [(pset_nz _ k v).2, i3]
          have hi2 : i < (pset (fill u.p (fresh (rsA u.p k) (rsZ u.p k))) k v).1.z := hi
          omega
        have hAf : ¬ inA (fill u.p (fresh (rsA u.p k) (rsZ u.p k))).n k := by rw [i2, hA0]; exact not_inA0 k
        show (pset (fill u.p (fresh (rsA u.p k) (rsZ u.p k))) k v).1.g.K i = nil ∨ ∃ q : Nat, 1 ≤ q ∧ q ≤ j + 1 ∧ (pset (fill u.p (fresh (rsA u.p k) (rsZ u.p k))) k v).1.g.K i = kn (b + q)
        have epf : (pset (fill u.p (fresh (rsA u.p k) (rsZ u.p k))) k v).1.g = (put (fill u.p (fresh (rsA u.p k) (rsZ u.p k))).z (fill u.p (fresh (rsA u.p k) (rsZ u.p k))).g k v).1 := by unfold pset; rw [if_neg hAf]
        rw [epf]
        rcases put_pairs (v := v) i1.inv i1.rt hr (i := i) (by rw [i3]; exact hi') with q | ⟨q, _⟩ | ⟨i', hi2, q, _⟩
        · exact .inl q
        · exact .inr ⟨j + 1, by omega, by omega, by rw [q, hkk]⟩
        · rw [q]
          rw [i3] at hi2
          rcases f6 i' hi2 with r | r
          · exact .inl r
          · obtain ⟨x, x1, x2, x3⟩ := hmem _ (List.mem_append.2 (.inl r))
            exact .inr ⟨x, x1, x2, x3⟩
    · rw [if_pos he]
      have he0 : (pset t.p k v).2.2 = 0 := by
        by_cases q : (pset t.p k v).2.2 = 0
        · exact q
        · rw [ep] at he q ⊢
          rcases (put_bad q).2 with r | ⟨_, r⟩ | ⟨_, _, _, r⟩
          · exact absurd r he
          · exact absurd ⟨hk.1, hv⟩ r
          · exact absurd r hk.2.1
      refine ⟨he0, ?_, ?_, ?_⟩
      · show (pset t.p k v).1.n = 0
        rw [(pset_nz t.p k v).1]; exact h.n0
      · show (pset t.p k v).1.z ≤ 1024
        rw [(pset_nz t.p k v).2]; exact h.zb
      · intro i hi
        have hi' : i < t.p.z := by
          have hi2 : i < (pset t.p k v).1.z := hi
          rwa [(pset_nz t.p k v).2] at hi2
        show (pset t.p k v).1.g.K i = nil ∨ ∃ q : Nat, 1 ≤ q ∧ q ≤ j + 1 ∧ (pset t.p k v).1.g.K i = kn (b + q)
        rw [ep]
        rcases put_pairs (v := v) ti.inv ti.rt hr hi' with q | ⟨q, _⟩ | ⟨i', hi2, q, _⟩
        · exact .inl q
        · exact .inr ⟨j + 1, by omega, by omega, q.trans hkk.symm⟩
        · rcases h.keys i' hi2 with r | ⟨x, x1, x2, x3⟩
          · exact .inl (q.trans r)
          · exact .inr ⟨x, x1, by omega, q.trans x3⟩
  obtain ⟨k1, k2, k3, k4⟩ := key
  obtain ⟨_, _, g1, g2⟩ := mp1 k1
  refine ⟨k1, k2, htb, by rw [hlim]; exact h.lim, k3, k4, fun q q1 q2 => ?_⟩
  by_cases e : q = j + 1
  · rw [e]; exact g1
  · rw [g2 _ (KOK_row (by omega) hb2 (by omega)) (hold q q1 (by omega))]
    exact h.get q q1 (by omega)
end Go.Proofs.YtpmmploedkbeoaaGreatDoor

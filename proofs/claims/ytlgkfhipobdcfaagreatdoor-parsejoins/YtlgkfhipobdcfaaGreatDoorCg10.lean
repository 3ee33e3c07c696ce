/- The walk of Scan: a refusal is caught at the face. -/
import Derived.Test.YtlgkfhipobdcfaaGreatDoorCg09
import Derived.Defers
import Derived.Recover
import Derived.Test.YtlgkfhipobdcfaaGreatDoorCg00
import Derived.Test.YtlgkfhipobdcfaaGreatDoorCg05
namespace Go.Proofs.YtlgkfhipobdcfaaGreatDoor
open Go.RowKit

theorem ta_yes (v : Value) (w : World) : (Instr.typeAssert (.iface 73 v) 20 73 true).run Tryz.prog w = .ok (.tuple #[v, .bool true]) w := by
  have hu := Tryz.underlying73
  unfold Instr.typeAssert
  simp_all [run_underlying hu, go_sem, Result.andThen]
theorem ta_nil (w : World) : (Instr.typeAssert .nilIface 20 73 true).run Tryz.prog w = .ok (.tuple #[.agg #[.int .i64 0, .int .i64 0], .bool false]) w := by
  have hu := Tryz.underlying73
  have hz : ∀ w, (zeroValue 73).run Tryz.prog w = .ok (.agg #[.int .i64 0, .int .i64 0]) w := fun w => by kernel_rfl
  unfold Instr.typeAssert
  simp_all [run_underlying hu, go_sem, Result.andThen]

set_option maxHeartbeats 1000000 in
theorem catch_idle (a : Nat) (w : World) :
    CallsD Tryz.prog 30 #[.pointer (some ⟨a, 0, none⟩), .pointer (some ⟨a + 1, 0, none⟩)] .returning w fun e u' w' => e = .returned (.tuple #[]) ∧ u' = .returning ∧ Below w.heap.size w w' := by
  have hta := ta_nil
  refine callsD_of_wpS Tryz.func30 rfl fun c₀ cs hu => ?_
  apply wpS_seq
  apply wpS_region
  simp [wpOpsS, go_sem, recoverD, hu, Tryz.ntmps30, Exit.thenS, hta]
  refine wpS_of_wp ?_
  change Code.wp Tryz.prog _ _ ⟨#[.pointer (some ⟨a, 0, none⟩), .pointer (some ⟨a + 1, 0, none⟩), .pointer (some ⟨w.heap.size, 0, none⟩), .bool false, .tuple #[.agg #[.int .i64 0, .int .i64 0], .bool false], .nilIface, .tuple #[.agg #[.int .i64 0, .int .i64 0], .bool false], .agg #[.int .i64 0, .int .i64 0], .bool false, undef, undef], []⟩ _
  go_wp2
  refine ⟨rfl, .returning, by cases c₀; simp_all, .tuple #[], by simp [results, Tryz.results30, go_sem], rfl, rfl, (Below.refl _ _).alloc (Nat.le_refl _) _⟩

theorem arr11 (p0 p1 v2 v3 v4 v5 v6 v7 v8 : Value) : #[p0, p1] ++ (((((((Array.replicate 9 undef).setIfInBounds 3 v5).setIfInBounds 4 v6).setIfInBounds 2 v4).setIfInBounds 5 v7).setIfInBounds 6 v8).setIfInBounds 0 v2).setIfInBounds 1 v3 = #[p0, p1, v2, v3, v4, v5, v6, v7, v8, undef, undef] := by kernel_rfl

set_option maxHeartbeats 1000000 in
theorem catch_panicking (a : Nat) (c x : Int) (older : List PanicEntry) (w : World) (u0 u1 u2 : Value) (h0 : w.cell? ⟨a, 0, none⟩ = some u0) (f0 : w.frozen? ⟨a, 0, none⟩ = false) (h1 : w.cell? ⟨a + 1, 0, none⟩ = some u1) (f1 : w.frozen? ⟨a + 1, 0, none⟩ = false) (h2 : w.cell? ⟨a + 1, 1, none⟩ = some u2) (f2 : w.frozen? ⟨a + 1, 1, none⟩ = false) (hlt : a + 1 < w.heap.size) :
    CallsD Tryz.prog 30 #[.pointer (some ⟨a, 0, none⟩), .pointer (some ⟨a + 1, 0, none⟩)] (.panicking ({ v := .iface 73 (.agg #[.int .i64 c, .int .i64 x]), recovered := false } :: older)) w fun e u' w' =>
      e = .returned (.tuple #[]) ∧ u' = .panicking ({ v := .iface 73 (.agg #[.int .i64 c, .int .i64 x]), recovered := true } :: older) ∧ w'.cell? ⟨a, 0, none⟩ = some (.slice none 0 0) ∧ w'.cell? ⟨a + 1, 0, none⟩ = some (.int .i64 c) ∧ w'.cell? ⟨a + 1, 1, none⟩ = some (.int .i64 x) ∧ Below a w w' := by
  have hta := ta_yes
  have g0 := alloc_cell (W := w) (b := a) (by omega) h0 (.cells #[.int .i64 c, .int .i64 x] 73)
  have g1 := alloc_cell (W := w) (b := a + 1) hlt h1 (.cells #[.int .i64 c, .int .i64 x] 73)
  have g2 := alloc_cell (W := w) (b := a + 1) hlt h2 (.cells #[.int .i64 c, .int .i64 x] 73)
  have k0 := alloc_frozen (W := w) (b := a) (by omega) f0 (.cells #[.int .i64 c, .int .i64 x] 73)
  have k1 := alloc_frozen (W := w) (b := a + 1) hlt f1 (.cells #[.int .i64 c, .int .i64 x] 73)
  have k2 := alloc_frozen (W := w) (b := a + 1) hlt f2 (.cells #[.int .i64 c, .int .i64 x] 73)
  refine callsD_of_wpS Tryz.func30 rfl fun c₀ cs hu => ?_
  apply wpS_seq
  apply wpS_region
  simp [wpOpsS, go_sem, recoverD, hu, Tryz.ntmps30, Exit.thenS, hta]
  refine wpS_of_wp ?_
  rw [arr11]
  go_wp2
  go_region
  all_goals
    refine ⟨rfl, .panicking ({ v := .iface 73 (.agg #[.int .i64 c, .int .i64 x]), recovered := true } :: older), by cases c₀; simp_all, .tuple #[], by simp [results, Tryz.results30, go_sem], rfl, rfl, ?_⟩
    refine ⟨by simp [go_sem, g0], by simp [go_sem, g1], by simp [go_sem, g2], ?_⟩
    exact (((((Below.refl a w).alloc (by omega) _).setCell (Nat.le_refl _) _).setCell (Nat.le_succ _) _).setCell (Nat.le_succ _) _).drew

/-- What Scan tells: tokens, a fault's number, its place. -/
def scT (l : List UInt8) : List Tok × Int × Int :=
  if 20000 < l.length then ([], 14, -1) else match scn l 0 [] with | .ok ts => (ts, 0, 0) | .bad c p => ([], c, p)

theorem own_base' {w : World} {base b' : Nat} {e : TypeId} {size : Nat} {v : Value} {n : Nat} {xs : List Value} (h : w.ownsRow base e size v n xs) (hb : b' ≤ base) : w.ownsRow b' e size v n xs := own_base h hb

set_option maxHeartbeats 2000000 in
theorem Scan_big (s : ByteArray) (w : World) (hb : 20000 < s.size) (hs : s.size ≤ 9223372036854775807) :
    Calls Tryz.prog 20 #[.string s] w fun e W' => e = .returned (.tuple #[.slice none 0 0, .agg #[.int .i64 14, .int .i64 (-1)]]) ∧ Below w.heap.size w W' := by
  have hmf : ∀ (fn : Fn) (first cap : Array Value) (w : World), (Instr.makeFunc fn first cap).run Tryz.prog w = .ok (.func fn first cap) w := fun _ _ _ _ => rfl
  go_enter_defers Tryz.func20, Tryz.ntmps20
  go_wp2
  simp [bodyPostD, Leaves, results, Tryz.results20, go_sem]
  exact ((Below.refl _ w).alloc (Nat.le_refl _) _).alloc (by simp) _

set_option maxHeartbeats 2000000 in
theorem Scan_small (s : ByteArray) (w : World) (hs : s.size ≤ 20000) (R : Res) (hR : scn (LD s 0) 0 [] = R) :
    Calls Tryz.prog 20 #[.string s] w fun e W' => ∃ v ts c p, e = .returned (.tuple #[v, .agg #[.int .i64 c, .int .i64 p]]) ∧ (ts, c, p) = (match R with | .ok ts => (ts, 0, 0) | .bad c p => ([], c, (p : Int))) ∧ W'.ownsRow w.heap.size 79 4 v ts.length (cellsT ts) ∧ Below w.heap.size w W' := by
  have hmf : ∀ (fn : Fn) (first cap : Array Value) (w : World), (Instr.makeFunc fn first cap).run Tryz.prog w = .ok (.func fn first cap) w := fun _ _ _ _ => rfl
  obtain ⟨V, hV⟩ : ∃ V, ((w.alloc (.cells #[.slice none 0 0] 47)).alloc (.cells #[.int .i64 0, .int .i64 0] 27)).alloc (.cells #[.string s, .slice none 0 0] 76) = V := ⟨_, rfl⟩
  have hVs : V.heap.size = w.heap.size + 3 := by rw [← hV]; simp
  have CS := scan_any (w.heap.size + 2) s V (by rw [← hV]; simp [go_sem]) (by rw [← hV]; simp [go_sem]) (by rw [← hV]; simp [go_sem]) (by omega) hs
  rw [hR] at CS
  have hBV : Below w.heap.size w V := by rw [← hV]; exact (((Below.refl _ w).alloc (Nat.le_refl _) _).alloc (by simp) _).alloc (by simp; omega) _
  have c0 : V.cell? ⟨w.heap.size, 0, none⟩ = some (.slice none 0 0) := by rw [← hV]; simp [go_sem]
  have c1 : V.cell? ⟨w.heap.size + 1, 0, none⟩ = some (.int .i64 0) := by rw [← hV]; simp [go_sem]
  have c2 : V.cell? ⟨w.heap.size + 1, 1, none⟩ = some (.int .i64 0) := by rw [← hV]; simp [go_sem]
  have d0 : V.frozen? ⟨w.heap.size, 0, none⟩ = false := by rw [← hV]; simp [go_sem]
  have d1 : V.frozen? ⟨w.heap.size + 1, 0, none⟩ = false := by rw [← hV]; simp [go_sem]
  have d2 : V.frozen? ⟨w.heap.size + 1, 1, none⟩ = false := by rw [← hV]; simp [go_sem]
  have HV : Hid (((w.alloc (.cells #[.slice none 0 0] 47)).alloc (.cells #[.int .i64 0, .int .i64 0] 27)).alloc (.cells #[.string s, .slice none 0 0] 76) = V) := hV
  cases R with
  | ok ts =>
    rw [← hV] at CS
    clear hV hR
    go_enter_defers Tryz.func20, Tryz.ntmps20
    go_wp2_with (go_at_call 31; refine CS.mono ?_; rintro e w1 ⟨rfl, h1, h2⟩; rw [HV.out] at h1 h2; obtain ⟨v, hv, hown⟩ := h1.tok; obtain ⟨av, cv, rfl⟩ := slice_shape hown; have q0 : w1.cell? ⟨w.heap.size, 0, none⟩ = some (.slice none 0 0) := (World.cell?_of_block (h2.block w.heap.size (by omega) (by omega))).trans c0; have q1 : w1.cell? ⟨w.heap.size + 1, 0, none⟩ = some (.int .i64 0) := (World.cell?_of_block (h2.block (w.heap.size + 1) (by omega) (by omega))).trans c1; have q2 : w1.cell? ⟨w.heap.size + 1, 1, none⟩ = some (.int .i64 0) := (World.cell?_of_block (h2.block (w.heap.size + 1) (by omega) (by omega))).trans c2; have r0 : w1.frozen? ⟨w.heap.size, 0, none⟩ = false := (World.frozen?_of_block (h2.block w.heap.size (by omega) (by omega))).trans d0; have r1 : w1.frozen? ⟨w.heap.size + 1, 0, none⟩ = false := (World.frozen?_of_block (h2.block (w.heap.size + 1) (by omega) (by omega))).trans d1; have r2 : w1.frozen? ⟨w.heap.size + 1, 1, none⟩ = false := (World.frozen?_of_block (h2.block (w.heap.size + 1) (by omega) (by omega))).trans d2)
    have hsz := h2.size
    obtain ⟨W3, hW3⟩ : ∃ W3, ((w1.setCell ⟨w.heap.size, 0, none⟩ (.slice av ts.length cv)).setCell ⟨w.heap.size + 1, 0, none⟩ (.int .i64 0)).setCell ⟨w.heap.size + 1, 1, none⟩ (.int .i64 0) = W3 := ⟨_, rfl⟩
    have hsz3 : W3.heap.size = w1.heap.size := by rw [← hW3]; simp
    have hown3 : W3.ownsRow (V.heap.size + 1) 79 4 (.slice av ts.length cv) ts.length (cellsT ts) := by
      rw [← hW3]
      exact ownsRow_setCell_below (ownsRow_setCell_below (ownsRow_setCell_below hown (by show w.heap.size < _; omega) _) (by show w.heap.size + 1 < _; omega) _) (by show w.heap.size + 1 < _; omega) _
    have hB3 : Below w.heap.size w W3 := by
      rw [← hW3]
      exact (((hBV.trans ((h2.below (by omega)).mono (by omega))).setCell (Nat.le_refl _) _).setCell (Nat.le_succ _) _).setCell (Nat.le_succ _) _
    have y0 : W3.cell? ⟨w.heap.size, 0, none⟩ = some (.slice av ts.length cv) := by rw [← hW3]; simp [go_sem, q0]
    have y1 : W3.cell? ⟨w.heap.size + 1, 0, none⟩ = some (.int .i64 0) := by rw [← hW3]; simp [go_sem, q1]
    have y2 : W3.cell? ⟨w.heap.size + 1, 1, none⟩ = some (.int .i64 0) := by rw [← hW3]; simp [go_sem, q2]
    rw [hW3]
    refine leaves_cons (f := 30) (args := #[.pointer (some ⟨w.heap.size, 0, none⟩), .pointer (some ⟨w.heap.size + 1, 0, none⟩)]) (by simp) (by simp [go_sem]) ?_
    refine (catch_idle w.heap.size W3).mono ?_
    rintro e u' w2 ⟨rfl, rfl, hB⟩
    have z0 := (hB.cell (p := ⟨w.heap.size, 0, none⟩) (by show w.heap.size < _; omega)).trans y0
    have z1 := (hB.cell (p := ⟨w.heap.size + 1, 0, none⟩) (by show w.heap.size + 1 < _; omega)).trans y1
    have z2 := (hB.cell (p := ⟨w.heap.size + 1, 1, none⟩) (by show w.heap.size + 1 < _; omega)).trans y2
    refine ⟨.tuple #[.slice av ts.length cv, .agg #[.int .i64 0, .int .i64 0]], by simp [results, Tryz.results20, go_sem, z0, z1, z2], ?_⟩
    exact ⟨_, ts, 0, 0, rfl, rfl, own_base (own_below hown3 hB) (by omega), hB3.trans (hB.mono (by omega))⟩
  | bad c p =>
    rw [← hV] at CS
    clear hV hR
    go_enter_defers Tryz.func20, Tryz.ntmps20
    go_wp2_with (go_at_call 31; refine CS.mono ?_; rintro e w1 ⟨he, h2⟩; unfold refu at he; subst he)
    rw [HV.out] at h2
    have hb2 : ∀ k, k < w.heap.size + 2 → w1.heap[k]? = V.heap[k]? := fun k hk => h2.block k (by omega) (by omega)
    have hsz := h2.size
    refine leaves_cons (f := 30) (args := #[.pointer (some ⟨w.heap.size, 0, none⟩), .pointer (some ⟨w.heap.size + 1, 0, none⟩)]) (by simp) (by simp [go_sem]) ?_
    refine (catch_panicking w.heap.size c p [] w1 _ _ _ ((World.cell?_of_block (hb2 w.heap.size (by omega))).trans c0) ((World.frozen?_of_block (hb2 w.heap.size (by omega))).trans d0) ((World.cell?_of_block (hb2 (w.heap.size + 1) (by omega))).trans c1) ((World.frozen?_of_block (hb2 (w.heap.size + 1) (by omega))).trans d1) ((World.cell?_of_block (hb2 (w.heap.size + 1) (by omega))).trans c2) ((World.frozen?_of_block (hb2 (w.heap.size + 1) (by omega))).trans d2) (by omega)).mono ?_
    rintro e u' w2 ⟨rfl, rfl, k0, k1, k2, hB⟩
    simp [Leaves, settle, results, Tryz.results20, go_sem, k0, k1, k2]
    exact ⟨_, [], c, p, ⟨rfl, rfl, rfl⟩, ⟨rfl, rfl, rfl⟩, World.ownsRow_nil _ _ _ _, (hBV.trans ((h2.below (by omega)).mono (by omega))).trans hB⟩

theorem scT_len (s : ByteArray) : s.data.toList.length = s.size := Array.length_toList

/-- Scan, whole. -/
theorem Scan_any (s : ByteArray) (w : World) (hs : s.size ≤ 9223372036854775807) :
    Calls Tryz.prog 20 #[.string s] w fun e W' => ∃ v, e = .returned (.tuple #[v, .agg #[.int .i64 (scT s.data.toList).2.1, .int .i64 (scT s.data.toList).2.2]]) ∧ W'.ownsRow w.heap.size 79 4 v (scT s.data.toList).1.length (cellsT (scT s.data.toList).1) ∧ Below w.heap.size w W' := by
  by_cases hb : 20000 < s.size
  · refine (Scan_big s w hb hs).mono fun e W' ⟨he, hB⟩ => ?_
    have : scT s.data.toList = ([], 14, -1) := by unfold scT; rw [scT_len, if_pos hb]
    rw [this]
    exact ⟨_, he, World.ownsRow_nil _ _ _ _, hB⟩
  · refine (Scan_small s w (by omega) _ rfl).mono fun e W' ⟨v, ts, c, p, he, h1, h2, hB⟩ => ?_
    have : scT s.data.toList = (ts, c, p) := by
      unfold scT
      rw [scT_len, if_neg hb, h1]
      rfl
    rw [this]
    exact ⟨v, he, h2, hB⟩

end Go.Proofs.YtlgkfhipobdcfaaGreatDoor

/- Plain facts on the bytes of a text's runes (no program in it): where the k-th rune begins; the runes' bytes are the text's. -/
namespace Go.Proofs.YtlgkfhipobdcfaaGreatDoor

/-- Where the k-th rune begins. -/
def pos (s : ByteArray) : Nat → Nat
  | 0 => 0
  | k + 1 => if pos s k < s.size then pos s k + wd s (pos s k) else pos s k

theorem pos_le (s : ByteArray) : ∀ k, pos s k ≤ s.size
  | 0 => Nat.zero_le _
  | k + 1 => by
    have := pos_le s k
    rw [pos]
    split
    · exact wd_le s _ (by assumption)
    · exact this

theorem drop_pos (s : ByteArray) : ∀ k, (rest s 0).drop k = rest s (pos s k)
  | 0 => rfl
  | k + 1 => by
    have ih := drop_pos s k
    rw [← List.drop_drop, ih, pos]
    split
    · rename_i h; rw [rest_at s _ h]; rfl
    · rename_i h; rw [rest_end s _ h]; rfl

theorem pos_lt (s : ByteArray) (k : Nat) (h : k < (rest s 0).length) : pos s k < s.size := by
  rcases Nat.lt_or_ge (pos s k) s.size with h1 | h1
  · exact h1
  · have h2 := drop_pos s k
    have h3 := rest_end s (pos s k) (by omega)
    have := List.drop_eq_nil_iff.1 (h2.trans h3)
    omega

theorem get_pos (s : ByteArray) (k : Nat) (h : k < (rest s 0).length) : (rest s 0)[k] = (pos s k, wd s (pos s k), rn s (pos s k)) := by
  have h1 := drop_pos s k
  rw [rest_at s _ (pos_lt s k h), List.drop_eq_getElem_cons h] at h1
  exact (List.cons.inj h1).1

theorem pos_succ (s : ByteArray) (k : Nat) (h : k < (rest s 0).length) : pos s (k + 1) = pos s k + wd s (pos s k) := by
  rw [pos, if_pos (pos_lt s k h)]

theorem pos_end (s : ByteArray) (k : Nat) (h : (rest s 0).length ≤ k) : pos s k = s.size := by
  have h1 := drop_pos s k
  rw [List.drop_eq_nil_of_le h] at h1
  rcases Nat.lt_or_ge (pos s k) s.size with h2 | h2
  · rw [rest_at s _ h2] at h1; cases h1
  · have := pos_le s k; omega

theorem pos_mono (s : ByteArray) (i j : Nat) (h : i ≤ j) : pos s i ≤ pos s j := by
  induction j with
  | zero => have : i = 0 := by omega
            subst this; exact Nat.le_refl _
  | succ j ih =>
    rcases Nat.lt_or_ge j i with h1 | h1
    · have : i = j + 1 := by omega
      subst this; exact Nat.le_refl _
    · have := ih h1
      rw [pos]
      split <;> omega

theorem mid_pos (s : ByteArray) (done : List Rn) (r : Rn) (l : List Rn) (h : rest s 0 = done ++ r :: l) : r = (pos s done.length, wd s (pos s done.length), rn s (pos s done.length)) ∧ pos s done.length < s.size := by
  have hk : done.length < (rest s 0).length := by rw [h]; simp
  have h1 := get_pos s done.length hk
  refine ⟨?_, pos_lt s _ hk⟩
  rw [← h1]
  simp [h]

/-- A rune's bytes; those of a list. -/
def rb (s : ByteArray) (r : Rn) : List UInt8 := (s.extract r.1 (r.1 + r.2.1)).data.toList
def bytesOf (s : ByteArray) (l : List Rn) : List UInt8 := l.flatMap (rb s)
theorem rb_eq (s : ByteArray) (r : Rn) : rb s r = (s.data.toList.drop r.1).take r.2.1 := by
  unfold rb
  simp [ByteArray.data_extract, Array.toList_extract]
theorem bytesOf_append (s : ByteArray) (a b : List Rn) : bytesOf s (a ++ b) = bytesOf s a ++ bytesOf s b := by simp [bytesOf]
theorem bytesOf_snoc (s : ByteArray) (a : List Rn) (r : Rn) : bytesOf s (a ++ [r]) = bytesOf s a ++ rb s r := by simp [bytesOf]

theorem bytes_rest (s : ByteArray) (p : Nat) : bytesOf s (rest s p) = s.data.toList.drop p := by
  by_cases h : p < s.size
  · have ih := bytes_rest s (p + wd s p)
    rw [rest_at s p h]
    show rb s _ ++ bytesOf s (rest s (p + wd s p)) = _
    rw [ih, rb_eq, ← List.drop_drop]
    exact List.take_append_drop _ _
  · rw [rest_end s p h]
    exact (List.drop_eq_nil_of_le (by rw [Array.length_toList]; exact Nat.le_of_not_lt h)).symm
termination_by s.size - p
decreasing_by have := wd_pos s p; omega

theorem bytes_drop (s : ByteArray) (k : Nat) : bytesOf s ((rest s 0).drop k) = s.data.toList.drop (pos s k) := by
  rw [drop_pos, bytes_rest]

theorem bytes_take (s : ByteArray) (k : Nat) : bytesOf s ((rest s 0).take k) = s.data.toList.take (pos s k) := by
  have h1 : bytesOf s ((rest s 0).take k) ++ bytesOf s ((rest s 0).drop k) = s.data.toList.take (pos s k) ++ s.data.toList.drop (pos s k) := by
    rw [← bytesOf_append, List.take_append_drop, List.take_append_drop, bytes_rest, List.drop_zero]
  exact List.append_inj_left' h1 (by rw [bytes_drop])

/-- The bytes of the runes from i on, below j. -/
theorem bytes_mid (s : ByteArray) (i j : Nat) (h : i ≤ j) : bytesOf s (((rest s 0).take j).drop i) = (s.data.toList.take (pos s j)).drop (pos s i) := by
  have h1 : bytesOf s (((rest s 0).take j).take i) ++ bytesOf s (((rest s 0).take j).drop i) = (s.data.toList.take (pos s j)).take (pos s i) ++ (s.data.toList.take (pos s j)).drop (pos s i) := by
    rw [← bytesOf_append, List.take_append_drop, List.take_append_drop, bytes_take]
  have h2 : bytesOf s (((rest s 0).take j).take i) = (s.data.toList.take (pos s j)).take (pos s i) := by
    rw [List.take_take, List.take_take, Nat.min_eq_left h, Nat.min_eq_left (pos_mono s i j h), bytes_take]
  rw [h2] at h1
  exact List.append_cancel_left h1

theorem bytes_none (s : ByteArray) (L : List Rn) (i j : Nat) (h : j ≤ i) : bytesOf s ((L.take j).drop i) = [] := by
  rw [List.drop_eq_nil_of_le (by rw [List.length_take]; omega)]
  rfl

theorem bytes_take_le (s : ByteArray) (l : List Rn) (k : Nat) : (bytesOf s (l.take k)).length ≤ (bytesOf s l).length := by
  have h := congrArg (fun x => (bytesOf s x).length) (List.take_append_drop k l)
  simp only [bytesOf_append, List.length_append] at h
  omega
theorem bytes_drop_le (s : ByteArray) (l : List Rn) (k : Nat) : (bytesOf s (l.drop k)).length ≤ (bytesOf s l).length := by
  have h := congrArg (fun x => (bytesOf s x).length) (List.take_append_drop k l)
  simp only [bytesOf_append, List.length_append] at h
  omega

/-- As many bytes at most as the text has. -/
theorem bytes_len (s : ByteArray) (done : List Rn) (r : Rn) (l : List Rn) (h : rest s 0 = done ++ r :: l) : (bytesOf s done).length + r.2.1 ≤ s.size ∧ (rb s r).length = r.2.1 := by
  obtain ⟨hr, hp⟩ := mid_pos s done r l h
  have hw := wd_le s _ hp
  have h1 := bytes_take s done.length
  rw [h, List.take_left] at h1
  have hsz : s.data.toList.length = s.size := Array.length_toList
  rw [h1, List.length_take, hsz, hr]
  refine ⟨by simp only; omega, ?_⟩
  rw [rb_eq, List.length_take, List.length_drop, hsz]
  simp only; omega

/-- One rune more, of those from i on, below j. -/
theorem mid_snoc_in (done : List Rn) (r : Rn) (i j : Nat) (h1 : i ≤ done.length) (h2 : done.length < j) : ((done ++ [r]).take j).drop i = (done.take j).drop i ++ [r] := by
  rw [List.take_of_length_le (by simp; omega), List.take_of_length_le (by omega), List.drop_append_of_le_length h1]
theorem mid_snoc_out (done : List Rn) (r : Rn) (i j : Nat) (h : ¬ (i ≤ done.length ∧ done.length < j)) : ((done ++ [r]).take j).drop i = (done.take j).drop i := by
  by_cases h2 : done.length < j
  · have h1 : done.length < i := by omega
    rw [List.drop_eq_nil_of_le (by rw [List.length_take]; simp; omega), List.drop_eq_nil_of_le (by rw [List.length_take]; omega)]
  · rw [List.take_append_of_le_length (by omega)]

/-- Stopping behind rune number j - 1 changes nothing of the runes below j. -/
theorem take_runTo (j : Int) (l : List Rn) : ∀ done, (runTo (fun d => decide ((d.length : Int) < j)) done l).take j.toNat = (done ++ l).take j.toNat := by
  induction l with
  | nil => intro done; simp [runTo]
  | cons r l ih =>
    intro done
    rw [runTo]
    by_cases h : ((done ++ [r]).length : Int) < j
    · rw [if_pos (decide_eq_true h), ih]; simp
    · rw [if_neg (by simpa using h)]
      have e : done ++ r :: l = (done ++ [r]) ++ l := by simp
      rw [e, List.take_append_of_le_length (l₁ := done ++ [r]) (by omega)]

end Go.Proofs.YtlgkfhipobdcfaaGreatDoor

/- Plain facts on valid runes (no program in it): a valid rune is read the same wherever its bytes stand. -/
namespace Go.Proofs.YtlgkfhipobdcfaaGreatDoor

theorem decodeN_local (n n' b0 b1 b2 b3 c1 c2 c3 : Nat) (hg : ¬ ((Lib.decodeN n b0 b1 b2 b3).1 = 65533 ∧ (Lib.decodeN n b0 b1 b2 b3).2 = 1)) (hn : (Lib.decodeN n b0 b1 b2 b3).2 ≤ n')
    (h1 : 2 ≤ (Lib.decodeN n b0 b1 b2 b3).2 → c1 = b1) (h2 : 3 ≤ (Lib.decodeN n b0 b1 b2 b3).2 → c2 = b2) (h3 : 4 ≤ (Lib.decodeN n b0 b1 b2 b3).2 → c3 = b3) :
    Lib.decodeN n' b0 c1 c2 c3 = Lib.decodeN n b0 b1 b2 b3 := by
  by_cases a1 : b0 < 128
  · unfold Lib.decodeN; rw [if_pos a1, if_pos a1]
  by_cases a2 : b0 / 32 = 6 ∧ 1 < n ∧ b1 / 64 = 2
  · by_cases a3 : b0 % 32 * 64 + b1 % 64 ≥ 128
    · have e : Lib.decodeN n b0 b1 b2 b3 = (b0 % 32 * 64 + b1 % 64, 2) := by unfold Lib.decodeN; rw [if_neg a1, if_pos a2, if_pos a3]
      rw [e] at hn h1 ⊢
      obtain rfl := h1 (Nat.le_refl _)
      unfold Lib.decodeN
      rw [if_neg a1, if_pos ⟨a2.1, hn, a2.2.2⟩, if_pos a3]
    · have e : Lib.decodeN n b0 b1 b2 b3 = (65533, 1) := by unfold Lib.decodeN; rw [if_neg a1, if_pos a2, if_neg a3]
      rw [e] at hg; simp at hg
  by_cases a4 : b0 / 16 = 14 ∧ (1 < n ∧ b1 / 64 = 2) ∧ 2 < n ∧ b2 / 64 = 2
  · by_cases a5 : b0 % 16 * 4096 + b1 % 64 * 64 + b2 % 64 ≥ 2048 ∧ (b0 % 16 * 4096 + b1 % 64 * 64 + b2 % 64 < 55296 ∨ 57344 ≤ b0 % 16 * 4096 + b1 % 64 * 64 + b2 % 64 ∧ b0 % 16 * 4096 + b1 % 64 * 64 + b2 % 64 ≤ 1114111)
    · have e : Lib.decodeN n b0 b1 b2 b3 = (b0 % 16 * 4096 + b1 % 64 * 64 + b2 % 64, 3) := by unfold Lib.decodeN; rw [if_neg a1, if_neg a2, if_pos a4, if_pos a5]
      rw [e] at hn h1 h2 ⊢
      obtain rfl := h1 (show 2 ≤ 3 by omega)
      obtain rfl := h2 (Nat.le_refl _)
      have hn' : 3 ≤ n' := hn
      unfold Lib.decodeN
      rw [if_neg a1, if_neg (by omega), if_pos ⟨a4.1, ⟨by omega, a4.2.1.2⟩, by omega, a4.2.2.2⟩, if_pos a5]
    · have e : Lib.decodeN n b0 b1 b2 b3 = (65533, 1) := by unfold Lib.decodeN; rw [if_neg a1, if_neg a2, if_pos a4, if_neg a5]
      rw [e] at hg; simp at hg
  by_cases a6 : b0 / 8 = 30 ∧ (1 < n ∧ b1 / 64 = 2) ∧ (2 < n ∧ b2 / 64 = 2) ∧ 3 < n ∧ b3 / 64 = 2
  · by_cases a7 : b0 % 8 * 262144 + b1 % 64 * 4096 + b2 % 64 * 64 + b3 % 64 ≥ 65536 ∧ (b0 % 8 * 262144 + b1 % 64 * 4096 + b2 % 64 * 64 + b3 % 64 < 55296 ∨ 57344 ≤ b0 % 8 * 262144 + b1 % 64 * 4096 + b2 % 64 * 64 + b3 % 64 ∧ b0 % 8 * 262144 + b1 % 64 * 4096 + b2 % 64 * 64 + b3 % 64 ≤ 1114111)
    · have e : Lib.decodeN n b0 b1 b2 b3 = (b0 % 8 * 262144 + b1 % 64 * 4096 + b2 % 64 * 64 + b3 % 64, 4) := by unfold Lib.decodeN; rw [if_neg a1, if_neg a2, if_neg a4, if_pos a6, if_pos a7]
      rw [e] at hn h1 h2 h3 ⊢
      obtain rfl := h1 (show 2 ≤ 4 by omega)
      obtain rfl := h2 (show 3 ≤ 4 by omega)
      obtain rfl := h3 (Nat.le_refl _)
      have hn' : 4 ≤ n' := hn
      unfold Lib.decodeN
      rw [if_neg a1, if_neg (by omega), if_neg (by omega), if_pos ⟨a6.1, ⟨by omega, a6.2.1.2⟩, ⟨by omega, a6.2.2.1.2⟩, by omega, a6.2.2.2.2⟩, if_pos a7]
    · have e : Lib.decodeN n b0 b1 b2 b3 = (65533, 1) := by unfold Lib.decodeN; rw [if_neg a1, if_neg a2, if_neg a4, if_pos a6, if_neg a7]
      rw [e] at hg; simp at hg
  · have e : Lib.decodeN n b0 b1 b2 b3 = (65533, 1) := by unfold Lib.decodeN; rw [if_neg a1, if_neg a2, if_neg a4, if_neg a6]
    rw [e] at hg; simp at hg

/-- A valid rune. -/
def okR (r : Rn) : Prop := ¬ (r.2.2 = 65533 ∧ r.2.1 = 1)

theorem decode_local (s t : ByteArray) (p q : Nat) (hg : okR (p, wd s p, rn s p)) (hn : q + wd s p ≤ t.size) (hb : ∀ i, i < wd s p → t.get! (q + i) = s.get! (p + i)) : wd t q = wd s p ∧ rn t q = rn s p := by
  have h0 := wd_pos s p
  unfold okR at hg
  simp only at hg
  have key : Utf8.decode t q = Utf8.decode s p := by
    unfold wd rn at *
    rw [Lib.decode_at s p] at *
    rw [Lib.decode_at t q]
    have e0 : (t.get! q).toNat = (s.get! p).toNat := by have := hb 0 (by omega); simp only [Nat.add_zero] at this; rw [this]
    rw [e0]
    exact decodeN_local _ _ _ _ _ _ _ _ _ hg (by omega) (fun h => by rw [hb 1 (by omega)]) (fun h => by rw [hb 2 (by omega)]) (fun h => by rw [hb 3 (by omega)])
  unfold wd rn
  rw [key]
  exact ⟨rfl, rfl⟩

/-- Where a row of runes ends that begins at p. -/
def en (p : Nat) : List Rn → Nat
  | [] => p
  | r :: A => en (p + r.2.1) A
theorem en_ge : ∀ (A : List Rn) (p : Nat), p ≤ en p A
  | [], p => Nat.le_refl p
  | r :: A, p => Nat.le_trans (Nat.le_add_right p r.2.1) (en_ge A _)
theorem rest_en (s : ByteArray) : ∀ (A l : List Rn) (p : Nat), rest s p = A ++ l → l = rest s (en p A)
  | [], l, p, h => h.symm
  | r :: A, l, p, h => by
    rcases Nat.lt_or_ge p s.size with h1 | h1
    · rw [rest_at s p h1] at h
      obtain ⟨h2, h3⟩ := List.cons.inj h
      subst h2
      exact rest_en s A l _ h3
    · rw [rest_end s p (by omega)] at h; cases h
theorem en_le (s : ByteArray) : ∀ (A l : List Rn) (p : Nat), p ≤ s.size → rest s p = A ++ l → en p A ≤ s.size
  | [], _, _, hp, _ => hp
  | r :: A, l, p, _, h => by
    rcases Nat.lt_or_ge p s.size with h1 | h1
    · rw [rest_at s p h1] at h
      obtain ⟨h2, h3⟩ := List.cons.inj h
      subst h2
      exact en_le s A l _ (wd_le s p h1) h3
    · rw [rest_end s p (by omega)] at h; cases h
/-- A rune behind a row of runes begins where it ends. -/
theorem en_at (s : ByteArray) (A l : List Rn) (r : Rn) (p : Nat) (h : rest s p = A ++ r :: l) : r.1 = en p A := by
  have h1 := rest_en s A (r :: l) p h
  rcases Nat.lt_or_ge (en p A) s.size with h2 | h2
  · rw [rest_at s _ h2] at h1
    rw [(List.cons.inj h1).1]
  · rw [rest_end s _ (by omega)] at h1; cases h1
theorem en_allB (s : ByteArray) (p : Nat) (hp : p ≤ s.size) : en p (rest s p) = s.size := by
  have h1 := en_le s (rest s p) [] p hp (by simp)
  have h2 := rest_en s (rest s p) [] p (by simp)
  rcases Nat.lt_or_ge (en p (rest s p)) s.size with h3 | h3
  · rw [rest_at s _ h3] at h2; cases h2
  · omega

/-- Valid runes at a text's begin are there in each text that has the same bytes there. -/
theorem rest_agree (s x : ByteArray) : ∀ (A l : List Rn) (p : Nat), rest s p = A ++ l → (∀ r ∈ A, okR r) → en p A ≤ x.size → (∀ i, p ≤ i → i < en p A → x.get! i = s.get! i) → rest x p = A ++ rest x (en p A)
  | [], _, _, _, _, _, _ => rfl
  | r :: A, l, p, h, hg, hx, hb => by
    rcases Nat.lt_or_ge p s.size with h1 | h1
    · rw [rest_at s p h1] at h
      obtain ⟨h2, h3⟩ := List.cons.inj h
      subst h2
      have hw := wd_pos s p
      have hge := en_ge A (p + wd s p)
      have hen : en p ((p, wd s p, rn s p) :: A) = en (p + wd s p) A := rfl
      rw [hen] at hx hb
      obtain ⟨k1, k2⟩ := decode_local s x p p (hg _ (by simp)) (by omega) (fun i hi => hb (p + i) (by omega) (by omega))
      have ih := rest_agree s x A l _ h3 (fun r hr => hg r (by simp [hr])) hx (fun i h4 h5 => hb i (by omega) h5)
      rw [rest_at x p (by omega), k1, k2, ih, hen]
      rfl
    · rw [rest_end s p (by omega)] at h; cases h

/-- A valid rune's bytes are read as one rune wherever they stand. -/
def Chunk (c : List UInt8) : Prop := c ≠ [] ∧ ∀ (t : ByteArray) (q : Nat), (t.data.toList.drop q).take c.length = c → wd t q = c.length
theorem chunk_of (s : ByteArray) (p : Nat) (hp : p < s.size) (hg : okR (p, wd s p, rn s p)) : Chunk (rb s (p, wd s p, rn s p)) := by
  have hw := wd_pos s p
  have hl := wd_le s p hp
  have hsz : ∀ x : ByteArray, x.data.toList.length = x.size := fun x => Array.length_toList
  have hlen : (rb s (p, wd s p, rn s p)).length = wd s p := by rw [rb_eq, List.length_take, List.length_drop, hsz]; simp only; omega
  refine ⟨fun h => by rw [h] at hlen; simp at hlen; omega, fun t q h => ?_⟩
  rw [hlen] at h ⊢
  have hlt : q + wd s p ≤ t.size := by
    have h1 := congrArg List.length h
    rw [hlen, List.length_take, List.length_drop, hsz] at h1
    omega
  refine (decode_local s t p q hg hlt (fun i hi => ?_)).1
  rw [rb_eq] at h
  simp only at h
  have h1 := congrArg (fun l => l.getD i 0) h
  simp only [List.getD, List.getElem?_take_of_lt hi, List.getElem?_drop] at h1
  rw [get_data, get_data]
  exact h1

theorem chunks_rest (t : ByteArray) : ∀ (cs : List (List UInt8)) (q : Nat), (∀ c ∈ cs, Chunk c) → t.data.toList.drop q = cs.flatten → (rest t q).map (rb t) = cs
  | [], q, _, h => by
    have : ¬ q < t.size := fun h1 => by
      have h2 := congrArg List.length h
      rw [List.length_drop] at h2
      have : t.data.toList.length = t.size := Array.length_toList
      simp at h2
      have h3 : t.data.size = t.size := rfl
      omega
    rw [rest_end t q this]; rfl
  | c :: cs, q, hc, h => by
    rw [List.flatten_cons] at h
    obtain ⟨hne, hch⟩ := hc c (by simp)
    have ht : (t.data.toList.drop q).take c.length = c := by rw [h]; exact List.take_left
    have hw := hch t q ht
    have hcl : 0 < c.length := List.length_pos_iff.2 hne
    have hq : q < t.size := by
      rcases Nat.lt_or_ge q t.size with h1 | h1
      · exact h1
      · have h2 : t.data.toList.drop q = [] := List.drop_eq_nil_of_le (by rw [Array.length_toList]; exact h1)
        rw [h2] at ht
        simp at ht
        exact absurd ht hne
    have ih := chunks_rest t cs (q + c.length) (fun d hd => hc d (by simp [hd])) (by rw [← List.drop_drop, h]; exact List.drop_left)
    rw [rest_at t q hq, List.map_cons, hw, ih, rb_eq]
    simp only
    rw [ht]

theorem bytesOf_rev (s : ByteArray) (l : List Rn) : bytesOf s l.reverse = (l.map (rb s)).reverse.flatten := by
  rw [bytesOf, List.flatMap_def, List.map_reverse]

/-- A valid text turned twice is the text. -/
theorem turn_twice (s : ByteArray) (hg : ∀ r ∈ rest s 0, okR r) : bytesOf ⟨(bytesOf s (rest s 0).reverse).toArray⟩ (rest ⟨(bytesOf s (rest s 0).reverse).toArray⟩ 0).reverse = s.data.toList := by
  have hch : ∀ c ∈ ((rest s 0).map (rb s)).reverse, Chunk c := by
    intro c hc
    rw [List.mem_reverse, List.mem_map] at hc
    obtain ⟨r, hr, rfl⟩ := hc
    obtain ⟨k, hk, rfl⟩ := List.getElem_of_mem hr
    have h1 := hg _ hr
    rw [get_pos s k hk] at h1 ⊢
    exact chunk_of s _ (pos_lt s k hk) h1
  have h2 := chunks_rest ⟨(bytesOf s (rest s 0).reverse).toArray⟩ _ 0 hch (by rw [List.drop_zero, ← bytesOf_rev])
  rw [bytesOf_rev, h2, List.reverse_reverse, ← List.flatMap_def]
  exact (bytes_rest s 0).trans (List.drop_zero)

end Go.Proofs.YtlgkfhipobdcfaaGreatDoor

/- Plain facts (no program in it): how a text's tokens stand in it; where a fault stands. -/
namespace Go.Proofs.YtlgkfhipobdcfaaGreatDoor
open Go.RowKit

/-- A fault's number is none of nought, and it stands in the text. -/
theorem qt_badc (q : UInt8) : ∀ (m : Nat) (l : List UInt8) (i : Nat) (acc : List UInt8), l.length ≤ m → ∀ c o, qt q l i acc = .bad c o → c ≠ 0 ∧ o < i + l.length + 1
  | 0, l, i, acc, hm, c, o, h => by
    have : l = [] := List.eq_nil_of_length_eq_zero (by omega)
    subst this; rw [qt_nil] at h; cases h; exact ⟨by omega, by omega⟩
  | m + 1, [], i, acc, _, c, o, h => by rw [qt_nil] at h; cases h; exact ⟨by omega, by omega⟩
  | m + 1, x :: t, i, acc, hm, c, o, h => by
    simp only [List.length_cons] at hm ⊢
    rw [qt] at h
    split at h
    · cases h; exact ⟨by omega, by omega⟩
    · split at h
      · split at h
        · cases h; exact ⟨by omega, by omega⟩
        · cases h
      · split at h
        · split at h
          · cases h; exact ⟨by omega, by omega⟩
          · split at h
            · cases h; exact ⟨by omega, by omega⟩
            · have h2 := (esc_take t).1
              have := qt_badc q m _ _ _ (by rw [List.length_drop]; omega) c o h
              rw [List.length_drop] at this
              exact ⟨this.1, by omega⟩
        · have := qt_badc q m t _ _ (by omega) c o h
          exact ⟨this.1, by omega⟩

/-- In a string a fault stands at the opening quote or at a backslash. -/
theorem qt_bado (q : UInt8) : ∀ (m : Nat) (l : List UInt8) (i : Nat) (acc : List UInt8), l.length ≤ m → ∀ c o, qt q l i acc = .bad c o → o = 0 ∨ o < i + l.length
  | 0, l, i, acc, hm, c, o, h => by
    have : l = [] := List.eq_nil_of_length_eq_zero (by omega)
    subst this; rw [qt_nil] at h; cases h; exact .inl rfl
  | m + 1, [], i, acc, _, c, o, h => by rw [qt_nil] at h; cases h; exact .inl rfl
  | m + 1, x :: t, i, acc, hm, c, o, h => by
    simp only [List.length_cons] at hm ⊢
    rw [qt] at h
    split at h
    · cases h; exact .inl rfl
    · split at h
      · split at h
        · cases h; exact .inl rfl
        · cases h
      · split at h
        · split at h
          · cases h; exact .inl rfl
          · split at h
            · cases h; right; omega
            · have h2 := (esc_take t).1
              have := qt_bado q m _ _ _ (by rw [List.length_drop]; omega) c o h
              rw [List.length_drop] at this
              omega
        · have := qt_bado q m t _ _ (by omega) c o h
          omega

theorem stp_badc (l : List UInt8) (hl : l ≠ []) (c : Int) (o : Nat) (h : stp l = .bad c o) : c ≠ 0 ∧ o < l.length := by
  have hlen := List.length_pos_iff.2 hl
  unfold stp at h
  split at h
  · cases h
  · split at h
    · cases h
    · split at h
      · split at h
        · cases h; exact ⟨by omega, hlen⟩
        · cases h
      · split at h
        · split at h
          · rename_i hz
            cases h; exact ⟨hz, hlen⟩
          · cases h
        · split at h
          · split at h
            · cases h
            · rename_i hq
              cases h
              have h1 := qt_badc _ _ _ _ _ (Nat.le_refl _) _ _ hq
              have h2 := qt_bado _ _ _ _ _ (Nat.le_refl _) _ _ hq
              rw [List.length_drop] at h2
              exact ⟨h1.1, by omega⟩
          · split at h
            · cases h; exact ⟨by omega, hlen⟩
            · cases h

theorem scn_badc : ∀ (m : Nat) (l : List UInt8) (p : Nat) (acc : List Tok), l.length ≤ m → ∀ c q, scn l p acc = .bad c q → c ≠ 0 ∧ q < p + l.length
  | 0, l, p, acc, hm, c, q, h => by
    have : l = [] := List.eq_nil_of_length_eq_zero (by omega)
    subst this; rw [scn_nil] at h; cases h
  | m + 1, [], p, acc, _, c, q, h => by rw [scn_nil] at h; cases h
  | m + 1, x :: u, p, acc, hm, c, q, h => by
    have hp := stp_pos (x :: u) (by simp)
    cases hs : stp (x :: u) with
    | skip n =>
      rw [scn_skip (by simp) hs] at h
      obtain ⟨h1, h2⟩ := hp.1 n hs
      have := scn_badc m _ _ _ (by rw [List.length_drop]; omega) c q h
      rw [List.length_drop] at this
      exact ⟨this.1, by omega⟩
    | tok k t v n =>
      rw [scn_tok (by simp) hs] at h
      obtain ⟨h1, h2⟩ := hp.2 k t v n hs
      have := scn_badc m _ _ _ (by rw [List.length_drop]; omega) c q h
      rw [List.length_drop] at this
      exact ⟨this.1, by omega⟩
    | bad d o =>
      rw [scn_bad (by simp) hs] at h
      cases h
      have := stp_badc (x :: u) (by simp) c o hs
      exact ⟨this.1, by omega⟩

/-- How a token stands in its text, behind byte a. -/
structure OT (l : List UInt8) (a : Nat) (t : Tok) : Prop where
  lo : a ≤ t.p
  hi : t.p < l.length
  kd : t.k ≠ 6
  tx : t.k ≠ 4 → t.t ≠ [] ∧ t.p + t.t.length ≤ l.length ∧ (l.drop t.p).take t.t.length = t.t
  nm : t.k = 1 → letB (rnL t.t) = true ∧ wordB t.t = false
def nxt (t : Tok) : Nat := if t.k = 4 then t.p + 1 else t.p + t.t.length
def GT (l : List UInt8) : Nat → List Tok → Prop
  | _, [] => False
  | a, t :: r => match r with
    | [] => t.k = 6 ∧ t.t = [] ∧ t.p = l.length ∧ a ≤ l.length
    | _ :: _ => OT l a t ∧ GT l (nxt t) r
theorem GT.ne {l : List UInt8} {a : Nat} {r : List Tok} (h : GT l a r) : r ≠ [] := fun e => by subst e; exact h

theorem rnL_take (l : List UInt8) (n : Nat) (h0 : l ≠ []) (h1 : wdL l ≤ n) (hv : ¬ (rnL l = 65533 ∧ wdL l = 1)) : rnL (l.take n) = rnL l := by
  have hle := wdL_le l h0
  have hpos := wdL_pos l
  have := decode_local ⟨l.toArray⟩ ⟨(l.take n).toArray⟩ 0 0 (by unfold okR; exact hv) (by rw [sz_list, List.length_take]; show 0 + wdL l ≤ _; omega) (fun i hi => by
    rw [get_list, get_list]
    simp only [Nat.zero_add]
    have hi' : i < wdL l := hi
    rw [List.getD_eq_getElem?_getD, List.getD_eq_getElem?_getD, List.getElem?_take_of_lt (by omega)])
  exact this.2

theorem stp_tok (l : List UInt8) (hl : l ≠ []) (k : Int) (t : List UInt8) (v : Int) (n : Nat) (h : stp l = .tok k t v n) :
    k ≠ 6 ∧ (k ≠ 4 → t = l.take n) ∧ (k = 1 → letB (rnL t) = true ∧ wordB t = false) ∧ (1 ≤ k ∧ k ≤ 5) := by
  unfold stp at h
  split at h
  · cases h
  · split at h
    · cases h
    · split at h
      · rename_i hlt
        split at h
        · cases h
        · cases h
          refine ⟨by split <;> omega, fun _ => rfl, fun hk => ?_, by split <;> omega⟩
          have hw : wordB (l.take (spn inNm l)) = false := by
            cases hw : wordB (l.take (spn inNm l))
            · rfl
            · rw [hw] at hk; simp at hk
          have hf : inNm (rnL l) = true := by unfold inNm; rw [hlt]; rfl
          refine ⟨?_, hw⟩
          rw [rnL_take l _ hl (by rw [spn_yes inNm l hl hf]; omega) (fun hc => by
            have := hc.1
            rw [this] at hlt
            exact absurd hlt (by decide))]
          exact hlt
      · split at h
        · split at h
          · cases h
          · cases h; exact ⟨by omega, fun _ => rfl, fun hk => absurd hk (by omega), by omega⟩
        · split at h
          · split at h
            · cases h; exact ⟨by omega, fun hk => absurd rfl hk, fun hk => absurd hk (by omega), by omega⟩
            · cases h
          · split at h
            · cases h
            · cases h; exact ⟨by omega, fun _ => rfl, fun hk => absurd hk (by omega), by omega⟩

theorem scn_GT (l : List UInt8) : ∀ (m p : Nat) (acc : List Tok) (ts : List Tok), l.length - p ≤ m → p ≤ l.length → scn (l.drop p) p acc = .ok ts → ∃ body, ts = acc ++ body ∧ ∀ a, a ≤ p → GT l a body
  | m, p, acc, ts, hm, hp, h => by
    by_cases hlt : p < l.length
    · have hne : l.drop p ≠ [] := fun e => by have := congrArg List.length e; simp at this; omega
      have hpos := stp_pos (l.drop p) hne
      rw [List.length_drop] at hpos
      cases m with
      | zero => omega
      | succ m =>
        cases hs : stp (l.drop p) with
        | skip n =>
          rw [scn_skip hne hs, List.drop_drop] at h
          obtain ⟨h1, h2⟩ := hpos.1 n hs
          obtain ⟨body, e1, e2⟩ := scn_GT l m (p + n) acc ts (by omega) (by omega) h
          exact ⟨body, e1, fun a ha => e2 a (by omega)⟩
        | tok k t v n =>
          rw [scn_tok hne hs, List.drop_drop] at h
          obtain ⟨h1, h2⟩ := hpos.2 k t v n hs
          obtain ⟨body, e1, e2⟩ := scn_GT l m (p + n) _ ts (by omega) (by omega) h
          obtain ⟨k1, k2, k3, k4⟩ := stp_tok (l.drop p) hne k t v n hs
          have hot : ∀ a, a ≤ p → OT l a ⟨k, t, v, p⟩ := fun a ha => {
            lo := ha, hi := hlt, kd := k1
            tx := fun hk => by
              have ht := k2 hk
              have hl : t.length = n := by rw [ht, List.length_take, List.length_drop]; omega
              refine ⟨fun e => ?_, ?_, ?_⟩
              · have e' : t = [] := e
                rw [e'] at hl; simp at hl; omega
              · show p + t.length ≤ _; omega
              · show (l.drop p).take t.length = t; rw [hl, ← ht]
            nm := k3 }
          have hnx : nxt ⟨k, t, v, p⟩ ≤ p + n := by
            unfold nxt
            by_cases hk : k = 4
            · rw [if_pos hk]; show p + 1 ≤ _; omega
            · rw [if_neg hk]
              show p + t.length ≤ _
              rw [k2 hk, List.length_take]; omega
          refine ⟨⟨k, t, v, p⟩ :: body, by rw [e1]; simp, fun a ha => ?_⟩
          have hb := e2 (nxt ⟨k, t, v, p⟩) hnx
          cases body with
          | nil => exact absurd rfl hb.ne
          | cons y z => exact ⟨hot a ha, hb⟩
        | bad d o => rw [scn_bad hne hs] at h; cases h
    · have e : l.drop p = [] := List.drop_of_length_le (by omega)
      rw [e, scn_nil] at h
      cases h
      exact ⟨_, rfl, fun a ha => ⟨rfl, rfl, by show p = _; omega, by omega⟩⟩

/-- What Scan tells, in these words. -/
theorem scT_bad (l : List UInt8) (h : (scT l).2.1 ≠ 0) : (scT l).1 = [] ∧ -1 ≤ (scT l).2.2 ∧ (scT l).2.2 < max (l.length : Int) 1 ∧ ((scT l).2.2 = -1 ↔ 20000 < l.length) := by
  unfold scT at h ⊢
  split
  · rename_i hb
    exact ⟨rfl, by simp, by simp only; omega, by simp [hb]⟩
  · rename_i hb
    rw [if_neg hb] at h
    cases hs : scn l 0 [] with
    | ok ts => rw [hs] at h; simp at h
    | bad c q =>
      have := scn_badc _ l 0 [] (Nat.le_refl _) c q hs
      exact ⟨rfl, by simp only; omega, by simp only; omega, by simp only; omega⟩
theorem scT_ok (l : List UInt8) (h : (scT l).2.1 = 0) : GT l 0 (scT l).1 ∧ ¬ 20000 < l.length ∧ (scT l).2.2 = 0 := by
  unfold scT at h ⊢
  split
  · rename_i hb
    rw [if_pos hb] at h; simp at h
  · rename_i hb
    rw [if_neg hb] at h
    cases hs : scn l 0 [] with
    | ok ts =>
      obtain ⟨body, e1, e2⟩ := scn_GT l _ 0 [] ts (Nat.le_refl _) (Nat.zero_le _) hs
      rw [List.nil_append] at e1
      subst e1
      exact ⟨e2 0 (Nat.le_refl _), hb, rfl⟩
    | bad c q =>
      rw [hs] at h
      have := scn_badc _ l 0 [] (Nat.le_refl _) c q hs
      exact absurd h this.1

end Go.Proofs.YtlgkfhipobdcfaaGreatDoor

/- The places of a tree lie in order. -/
namespace Go.Proofs.YtlgkfhipobdcfaaGreatDoor

/-- A row's places: none ahead of q; in a block each behind the one before (the first: behind r). -/
def F.ord : Bool → Int → Int → F → Prop
  | _, _, _, .nil => True
  | b, q, r, .cons k _ _ p ks s => (q ≤ p ∧ (b = true → r < p) ∧ F.ord (decide (k = 20)) p (p - 1) ks) ∧ F.ord b q p s
/-- The last one's place. -/
def F.lp : Int → F → Int
  | r, .nil => r
  | _, .cons _ _ _ p _ s => F.lp p s
theorem F.ord_app (b : Bool) (q : Int) : ∀ (f g : F) (r : Int), (f.app g).ord b q r ↔ f.ord b q r ∧ g.ord b q (f.lp r)
  | .nil, g, r => by simp [F.app, F.ord, F.lp]
  | .cons k t n p ks s, g, r => by
    simp only [F.app, F.ord, F.lp]
    rw [F.ord_app b q s g p]
    exact ⟨fun h => ⟨⟨h.1, h.2.1⟩, h.2.2⟩, fun h => ⟨h.1.1, h.1.2, h.2⟩⟩
theorem F.lp_app : ∀ (f g : F) (r : Int), (f.app g).lp r = g.lp (f.lp r)
  | .nil, g, r => rfl
  | .cons k t n p ks s, g, r => by simp only [F.app, F.lp]; exact F.lp_app s g p
/-- A row with no place ahead of q. -/
def Rop (f : F) (q : Int) : Prop := ∀ r, f.ord false q r
/-- One tree at p, its places in order. -/
def Trp (f : F) (p : Int) : Prop := ∃ k t n ks, f = one k t n p ks ∧ ks.ord (decide (k = 20)) p (p - 1)
theorem Rop.nil {q : Int} : Rop .nil q := fun _ => trivial
theorem Rop.app {f g : F} {q : Int} (h : Rop f q) (h2 : Rop g q) : Rop (f.app g) q := fun r => (F.ord_app _ _ _ _ _).2 ⟨h r, h2 _⟩
theorem F.ord_mono : ∀ (f : F) (b : Bool) (q q' r : Int), q' ≤ q → f.ord b q r → f.ord b q' r
  | .nil, _, _, _, _, _, _ => trivial
  | .cons k t n p ks s, b, q, q', r, h, h2 => ⟨⟨by have := h2.1.1; omega, h2.1.2⟩, F.ord_mono s b q q' p h h2.2⟩
theorem Rop.mono {f : F} {p q : Int} (h : Rop f p) (hq : q ≤ p) : Rop f q := fun r => F.ord_mono f _ _ _ _ hq (h r)
theorem Trp.ro {f : F} {p q : Int} (h : Trp f p) (hq : q ≤ p) : Rop f q := by
  obtain ⟨k, t, n, ks, rfl, h⟩ := h
  intro r
  refine ⟨⟨hq, fun e => ?_, h⟩, trivial⟩
  exact absurd e (by decide)
theorem Trp.ordT {f : F} {p q r : Int} (h : Trp f p) (hq : q ≤ p) (hr : r < p) : f.ord true q r := by
  obtain ⟨k, t, n, ks, rfl, h⟩ := h
  exact ⟨⟨hq, fun _ => hr, h⟩, trivial⟩
theorem Trp.lp {f : F} {p : Int} (h : Trp f p) (r : Int) : f.lp r = p := by
  obtain ⟨k, t, n, ks, rfl, h⟩ := h
  rfl
theorem Trp.at {f : F} {p : Int} (h : Trp f p) : f.at = p := by
  obtain ⟨k, t, n, ks, rfl, h⟩ := h
  rfl
theorem Trp.mk {k n p q : Int} {t : List UInt8} {ks : F} (hk : k ≠ 20) (h : Rop ks p) (e : q = p) : Trp (one k t n q ks) p := by
  subst e
  exact ⟨k, t, n, ks, rfl, by rw [decide_eq_false hk]; exact h _⟩

/-- The tokens left: the end last, their places rising, none behind N. -/
structure Rsp (N : Int) (l : List Tok) : Prop where
  en : Ends l
  up : l.Pairwise fun a b => a.p < b.p
  le : ∀ t ∈ l, (t.p : Int) ≤ N
theorem Rsp.tl {N : Int} {l : List Tok} (h : Rsp N l) (hn : hc l ≠ 56) : Rsp N l.tail ∧ ha l < ha l.tail := by
  have e := h.en.tl hn
  cases l with
  | nil => exact absurd rfl h.en.ne
  | cons t l =>
    obtain ⟨u, l', e'⟩ := e.cons
    have e' : l = u :: l' := e'
    subst e'
    have h2 := List.pairwise_cons.1 h.up
    refine ⟨⟨e, h2.2, fun t ht => h.le t (List.mem_cons_of_mem _ ht)⟩, ?_⟩
    have := h2.1 u (List.mem_cons_self ..)
    show (t.p : Int) < (u.p : Int)
    omega
theorem Rsp.ha {N : Int} {l : List Tok} (h : Rsp N l) : 0 ≤ ha l ∧ ha l ≤ N := by
  cases l with
  | nil => exact absurd rfl h.en.ne
  | cons t l => exact ⟨Int.natCast_nonneg _, h.le t (List.mem_cons_self ..)⟩

/-- A going through: its trees and what is left are so; a refusal's place lies in the text. -/
def Wpl (N : Int) (x : PR) (R : F → List Tok → Prop) : Prop :=
  match x with
  | .ok f m => R f m
  | .bad p => 0 ≤ p ∧ p ≤ N
  | .out => True
theorem Wpl.ok {N : Int} {f : F} {m : List Tok} {R : F → List Tok → Prop} (h : R f m) : Wpl N (.ok f m) R := h
theorem Wpl.mono {N : Int} {x : PR} {Q R : F → List Tok → Prop} (h : Wpl N x Q) (hk : ∀ f m, Q f m → R f m) : Wpl N x R := by
  cases x with
  | ok f m => exact hk f m h
  | bad p => exact h
  | out => exact trivial
theorem Wpl.bind {N : Int} {x : PR} {k : F → List Tok → PR} {Q R : F → List Tok → Prop} (h : Wpl N x Q) (hk : ∀ f m, Q f m → Wpl N (k f m) R) : Wpl N (x.bind k) R := by
  cases x with
  | ok f m => exact hk f m h
  | bad p => exact h
  | out => exact trivial
theorem Wpl.need {N : Int} {c : Nat} {l : List Tok} {k : List Tok → PR} {R : F → List Tok → Prop} (hl : Rsp N l) (hc' : c ≠ 56) (h : Rsp N l.tail → ha l < ha l.tail → Wpl N (k l.tail) R) : Wpl N (need c l k) R := by
  unfold Go.Proofs.YtlgkfhipobdcfaaGreatDoor.need
  split
  · next e =>
    obtain ⟨h1, h2⟩ := hl.tl (by rw [e]; exact hc')
    exact h h1 h2
  · exact hl.ha
theorem Wpl.nam {N q : Int} {l : List Tok} {k : F → List Tok → PR} {R : F → List Tok → Prop} (hl : Rsp N l) (hq : q ≠ 20) (h : ∀ f, Trp f (ha l) → Rsp N l.tail → ha l < ha l.tail → Wpl N (k f l.tail) R) : Wpl N (nam q l k) R := by
  unfold Go.Proofs.YtlgkfhipobdcfaaGreatDoor.nam
  split
  · next e =>
    obtain ⟨h1, h2⟩ := hl.tl (by rw [e]; decide)
    exact h _ (.mk hq .nil rfl) h1 h2
  · exact hl.ha
theorem Wpl.tgt {N : Int} {f : F} {k : PR} {R : F → List Tok → Prop} {p : Int} (hT : Trp f p) (h0 : 0 ≤ p) (h1 : p ≤ N) (h : Wpl N k R) : Wpl N (tgt f k) R := by
  unfold Go.Proofs.YtlgkfhipobdcfaaGreatDoor.tgt
  split
  · exact h
  · rw [hT.at]; exact ⟨h0, h1⟩

/-- What a job tells of places. -/
@[reducible] def Opl (j : J) (l : List Tok) (f : F) (m : List Tok) : Prop :=
  match j with
  | .blk _ => Trp f (ha l) ∧ ha l ≤ ha m
  | .bk _ a => (∀ q, q ≤ ha l → a.ord true q (q - 1) → a.lp (q - 1) < ha l → f.ord true q (q - 1)) ∧ ha l ≤ ha m
  | .lst a => (∀ q, q ≤ ha l → Rop a q → Rop f q) ∧ ha l ≤ ha m
  | .nms a => (∀ q, q ≤ ha l → Rop a q → Rop f q) ∧ ha l ≤ ha m
  | .ifs a => (∀ q, q ≤ ha l → Rop a q → Rop f q) ∧ ha l ≤ ha m
  | .asg a => (∀ q, q ≤ ha l → Rop a q → Rop f q) ∧ ha l ≤ ha m
  | .tab a => (∀ q, q ≤ ha l → Rop a q → Rop f q) ∧ ha l ≤ ha m
  | .exl _ g => (∀ q, q ≤ ha l → Trp g q → Trp f q) ∧ ha l ≤ ha m
  | .sufl g => (∀ q, q ≤ ha l → Trp g q → Trp f q) ∧ ha l ≤ ha m
  | _ => Trp f (ha l) ∧ ha l < ha m

section
variable {N : Int} {rec : J → List Tok → PR} (ih : ∀ j l, Rsp N l → Wpl N (rec j l) fun f m => Rsp N m ∧ Opl j l f m)
include ih
theorem or_body {l : List Tok} {k : F → List Tok → PR} {R : F → List Tok → Prop} (hl : Rsp N l) (h : ∀ f m, Rsp N m → ha l < ha m → Rop f (ha l) → Wpl N (k f m) R) : Wpl N (bodyP rec l k) R :=
  .need hl (by decide) fun R1 d1 => .bind (ih _ _ R1) fun f m ⟨R2, T, d2⟩ => .need R2 (by decide) fun R3 d3 => h f _ R3 (by omega) (T.ro (by omega))
theorem or_last {l : List Tok} (hl : Rsp N l) (h2 : hc l = 2) : Wpl N (lastP rec l) fun f m => Rsp N m ∧ Trp f (ha l) ∧ ha l < ha m := by
  obtain ⟨R1, d1⟩ := hl.tl (by rw [h2]; decide)
  unfold lastP
  split
  · next e =>
    obtain ⟨R2, d2⟩ := R1.tl (by rw [e]; decide)
    exact .ok ⟨R2, .mk (by decide) .nil rfl, by omega⟩
  · split
    · exact .ok ⟨R1, .mk (by decide) .nil rfl, d1⟩
    · refine .bind (ih _ _ R1) fun f m ⟨R2, T, d2⟩ => ?_
      have hT := T (ha l) (by omega) .nil
      split
      · next e =>
        obtain ⟨R3, d3⟩ := R2.tl (by rw [e]; decide)
        exact .ok ⟨R3, .mk (by decide) hT rfl, by omega⟩
      · exact .ok ⟨R2, .mk (by decide) hT rfl, by omega⟩
theorem or_fun {l : List Tok} (hl : Rsp N l) (h2 : hc l = 3) : Wpl N (funP rec l) fun f m => Rsp N m ∧ Trp f (ha l) ∧ ha l < ha m := by
  obtain ⟨R1, d1⟩ := hl.tl (by rw [h2]; decide)
  unfold funP parP
  refine .nam R1 (by decide) fun m T R2 d2 => .need R2 (by decide) fun R3 d3 => .bind (Q := fun ps m => Rsp N m ∧ Rop ps (ha l) ∧ ha l ≤ ha m) ?_ fun ps l1 ⟨R4, O4, d4⟩ => .need R4 (by decide) fun R5 d5 => .bind (ih _ _ R5) fun b l2 ⟨R6, T6, d6⟩ => .need R6 (by decide) fun R7 d7 => .ok ⟨R7, .mk (by decide) (O4.app (T6.ro (by omega))) rfl, by omega⟩
  split
  · exact .ok ⟨R3, .nil, by omega⟩
  · exact .nam R3 (by decide) fun f T4 R4 d4 => .mono (ih _ _ R4) fun ps m ⟨R5, h5, d5⟩ => ⟨R5, h5 _ (by omega) (T4.ro (by omega)), by omega⟩
theorem or_br {a : F} {l : List Tok} (hl : Rsp N l) : Wpl N (brP rec a l) fun f m => Rsp N m ∧ (∀ q, q ≤ ha l → Rop a q → Rop f q) ∧ ha l ≤ ha m := by
  unfold brP
  exact .bind (ih _ _ hl) fun e l1 ⟨R1, T1, d1⟩ => .need R1 (by decide) fun R2 d2 => .bind (ih _ _ R2) fun b l2 ⟨R3, T3, d3⟩ => .ok ⟨R3, fun q hq ha' => (ha'.app (T1.ro (by omega))).app (T3.ro (by omega)), by omega⟩
theorem or_num {p : Int} {a : F} {l : List Tok} (hl : Rsp N l) (hp : p ≤ ha l) (hA : Rop a p) : Wpl N (numP rec p a l) fun f m => Rsp N m ∧ Trp f p ∧ p < ha m := by
  unfold numP
  refine .bind (ih _ _ hl) fun e1 l1 ⟨R1, T1, d1⟩ => .need R1 (by decide) fun R2 d2 => .bind (ih _ _ R2) fun e2 l2 ⟨R3, T3, d3⟩ => ?_
  have h2 := (hA.app (T1.ro (by omega))).app (T3.ro (q := p) (by omega))
  split
  · next e =>
    obtain ⟨R4, d4⟩ := R3.tl (by rw [e]; decide)
    exact .bind (ih _ _ R4) fun e3 l3 ⟨R5, T5, d5⟩ => or_body ih R5 fun b l4 R6 d6 T6 => .ok ⟨R6, .mk (by decide) ((h2.app (T5.ro (by omega))).app (T6.mono (by omega))) rfl, by omega⟩
  · exact or_body ih R3 fun b l4 R6 d6 T6 => .ok ⟨R6, .mk (by decide) (h2.app (T6.mono (by omega))) rfl, by omega⟩
theorem or_for {l : List Tok} (hl : Rsp N l) (h2 : hc l = 10) : Wpl N (forP rec l) fun f m => Rsp N m ∧ Trp f (ha l) ∧ ha l < ha m := by
  obtain ⟨R1, d1⟩ := hl.tl (by rw [h2]; decide)
  unfold forP
  refine .nam R1 (by decide) fun m T R2 d2 => ?_
  split
  · next e =>
    obtain ⟨R3, d3⟩ := R2.tl (by rw [e]; decide)
    exact or_num ih R3 (by omega) (T.ro (by omega))
  · exact .bind (ih _ _ R2) fun ns l1 ⟨R3, T3, d3⟩ => .need R3 (by decide) fun R4 d4 => .bind (ih _ _ R4) fun f l2 ⟨R5, T5, d5⟩ => or_body ih R5 fun b l3 R6 d6 T6 => .ok ⟨R6, .mk (by decide) ((T5 _ (by omega) (T3 _ (by omega) (T.ro (by omega)))).app (T6.mono (by omega))) rfl, by omega⟩
theorem or_loc {l : List Tok} (hl : Rsp N l) (h2 : hc l = 11) : Wpl N (locP rec l) fun f m => Rsp N m ∧ Trp f (ha l) ∧ ha l < ha m := by
  obtain ⟨R1, d1⟩ := hl.tl (by rw [h2]; decide)
  unfold locP
  refine .nam R1 (by decide) fun m T R2 d2 => .bind (ih _ _ R2) fun ns l1 ⟨R3, T3, d3⟩ => ?_
  have hn := T3 (ha l) (by omega) (T.ro (by omega))
  split
  · next e =>
    obtain ⟨R4, d4⟩ := R3.tl (by rw [e]; decide)
    exact .bind (ih _ _ R4) fun f l2 ⟨R5, T5, d5⟩ => .ok ⟨R5, .mk (by decide) (T5 _ (by omega) hn) rfl, by omega⟩
  · exact .ok ⟨R3, .mk (by decide) hn rfl, by omega⟩
theorem or_asg {l : List Tok} (hl : Rsp N l) : Wpl N (asgP rec l) fun f m => Rsp N m ∧ Trp f (ha l) ∧ ha l < ha m := by
  unfold asgP
  refine .bind (ih _ _ hl) fun f l1 ⟨R1, T1, d1⟩ => ?_
  split
  · exact .tgt T1 hl.ha.1 hl.ha.2 (.bind (ih _ _ R1) fun ts l2 ⟨R2, T2, d2⟩ => .need R2 (by decide) fun R3 d3 => .bind (ih _ _ R3) fun g l3 ⟨R4, T4, d4⟩ => .ok ⟨R4, .mk (by decide) (T4 _ (by omega) (T2 _ (by omega) (T1.ro (by omega)))) T1.at, by omega⟩)
  · split
    · exact .ok ⟨R1, .mk (by decide) (T1.ro (by omega)) T1.at, d1⟩
    · exact R1.ha
theorem or_arg {a : F} {l : List Tok} (hl : Rsp N l) : Wpl N (argP rec a l) fun f m => Rsp N m ∧ (∀ q, q ≤ ha l → Rop a q → Rop f q) ∧ ha l ≤ ha m := by
  unfold argP
  split
  · next e =>
    obtain ⟨R1, d1⟩ := hl.tl (by rw [e]; decide)
    exact .ok ⟨R1, fun _ _ h => h, by omega⟩
  · exact .bind (ih _ _ hl) fun f l1 ⟨R1, T1, d1⟩ => .need R1 (by decide) fun R2 d2 => .ok ⟨R2, T1, by omega⟩
theorem or_stem {l : List Tok} (hl : Rsp N l) : Wpl N (stemP rec l) fun f m => Rsp N m ∧ Trp f (ha l) ∧ ha l < ha m := by
  unfold stemP
  split
  · next e =>
    obtain ⟨R1, d1⟩ := hl.tl (by rw [e]; decide)
    exact .bind (ih _ _ R1) fun f l1 ⟨R2, T2, d2⟩ => .need R2 (by decide) fun R3 d3 => .ok ⟨R3, .mk (by decide) (T2.ro (by omega)) rfl, by omega⟩
  · exact .nam hl (by decide) fun f T R1 d1 => .ok ⟨R1, T, d1⟩
theorem or_step (j : J) (l : List Tok) (hl : Rsp N l) : Wpl N (stp' rec j l) fun f m => Rsp N m ∧ Opl j l f m := by
  cases j with
  | blk c =>
    exact .bind (ih _ _ hl) fun f m ⟨R1, T1, d1⟩ => .ok ⟨R1, ⟨_, _, _, _, rfl, T1 _ (by omega) trivial (by show ha l - 1 < ha l; omega)⟩, d1⟩
  | bk c a =>
    simp only [stp']
    split
    · next e =>
      obtain ⟨R1, d1⟩ := hl.tl (by rw [e]; decide)
      exact .mono (ih _ _ R1) fun f m ⟨R2, T2, d2⟩ => ⟨R2, fun q h1 h2 h3 => T2 q (by omega) h2 (by omega), by omega⟩
    · split
      · next e =>
        exact .bind (or_last ih hl e) fun f m ⟨R2, T2, d2⟩ => .ok ⟨R2, fun q h1 h2 h3 => (F.ord_app _ _ _ _ _).2 ⟨h2, T2.ordT h1 h3⟩, by omega⟩
      · split
        · next e =>
          exact .bind (or_fun ih hl e.2) fun f m ⟨R2, T2, d2⟩ => .mono (ih _ _ R2) fun g m2 ⟨R3, T3, d3⟩ => ⟨R3, fun q h1 h2 h3 => T3 q (by omega) ((F.ord_app _ _ _ _ _).2 ⟨h2, T2.ordT h1 h3⟩) (by rw [F.lp_app, T2.lp]; exact d2), by omega⟩
        · split
          · exact .ok ⟨hl, fun q h1 h2 h3 => h2, by omega⟩
          · exact .bind (ih _ _ hl) fun f m ⟨R2, T2, d2⟩ => .mono (ih _ _ R2) fun g m2 ⟨R3, T3, d3⟩ => ⟨R3, fun q h1 h2 h3 => T3 q (by omega) ((F.ord_app _ _ _ _ _).2 ⟨h2, T2.ordT h1 h3⟩) (by rw [F.lp_app, T2.lp]; exact d2), by omega⟩
  | stat =>
    simp only [stp']
    split
    · exact or_body ih hl fun b m R1 d1 T1 => .ok ⟨R1, .mk (by decide) T1 rfl, d1⟩
    · split
      · next e =>
        obtain ⟨R1, d1⟩ := hl.tl (by rw [e]; decide)
        unfold whileP
        exact .bind (ih _ _ R1) fun f m ⟨R2, T2, d2⟩ => or_body ih R2 fun b m2 R3 d3 T3 => .ok ⟨R3, .mk (by decide) ((T2.ro (by omega)).app (T3.mono (by omega))) rfl, by omega⟩
      · split
        · next e =>
          obtain ⟨R1, d1⟩ := hl.tl (by rw [e]; decide)
          unfold ifP
          exact .bind (ih _ _ R1) fun f m ⟨R2, T2, d2⟩ => .ok ⟨R2, .mk (by decide) (T2 _ (by omega) .nil) rfl, by omega⟩
        · split
          · next e => exact or_for ih hl e
          · split
            · next e => exact or_loc ih hl e
            · split
              · next e =>
                obtain ⟨R1, d1⟩ := hl.tl (by rw [e]; decide)
                exact .ok ⟨R1, .mk (by decide) .nil rfl, d1⟩
              · exact or_asg ih hl
  | lst a =>
    refine .bind (ih _ _ hl) fun f m ⟨R1, T1, d1⟩ => ?_
    split
    · next e =>
      obtain ⟨R2, d2⟩ := R1.tl (by rw [e]; decide)
      exact .mono (ih _ _ R2) fun g m2 ⟨R3, T3, d3⟩ => ⟨R3, fun q h1 h2 => T3 q (by omega) (h2.app (T1.ro h1)), by omega⟩
    · exact .ok ⟨R1, fun q h1 h2 => h2.app (T1.ro h1), by omega⟩
  | nms a =>
    simp only [stp']
    split
    · next e =>
      obtain ⟨R2, d2⟩ := hl.tl (by rw [e]; decide)
      exact .nam R2 (by decide) fun f T R3 d3 => .mono (ih _ _ R3) fun g m2 ⟨R4, T4, d4⟩ => ⟨R4, fun q h1 h2 => T4 q (by omega) (h2.app (T.ro (by omega))), by omega⟩
    · exact .ok ⟨hl, fun q h1 h2 => h2, by omega⟩
  | ifs a =>
    refine .bind (or_br ih hl) fun f m ⟨R1, T1, d1⟩ => ?_
    split
    · next e =>
      obtain ⟨R2, d2⟩ := R1.tl (by rw [e]; decide)
      exact .mono (ih _ _ R2) fun g m2 ⟨R3, T3, d3⟩ => ⟨R3, fun q h1 h2 => T3 q (by omega) (T1 q h1 h2), by omega⟩
    · split
      · next e =>
        obtain ⟨R2, d2⟩ := R1.tl (by rw [e]; decide)
        exact .bind (ih _ _ R2) fun g m2 ⟨R3, T3, d3⟩ => .need R3 (by decide) fun R4 d4 => .ok ⟨R4, fun q h1 h2 => (T1 q h1 h2).app (T3.ro (by omega)), by omega⟩
      · exact .need R1 (by decide) fun R4 d4 => .ok ⟨R4, T1, by omega⟩
  | asg a =>
    simp only [stp']
    split
    · next e =>
      obtain ⟨R2, d2⟩ := hl.tl (by rw [e]; decide)
      exact .bind (ih _ _ R2) fun f m ⟨R3, T3, d3⟩ => .tgt T3 R2.ha.1 R2.ha.2 (.mono (ih _ _ R3) fun g m2 ⟨R4, T4, d4⟩ => ⟨R4, fun q h1 h2 => T4 q (by omega) (h2.app (T3.ro (by omega))), by omega⟩)
    · exact .ok ⟨hl, fun q h1 h2 => h2, by omega⟩
  | ex a =>
    exact .bind (ih _ _ hl) fun f m ⟨R1, T1, d1⟩ => .mono (ih _ _ R1) fun g m2 ⟨R2, T2, d2⟩ => ⟨R2, T2 _ (by omega) T1, by omega⟩
  | exl a g =>
    simp only [stp']
    split
    · next e =>
      obtain ⟨R2, d2⟩ := hl.tl (by intro e2; rw [e2] at e; exact absurd e (Nat.not_lt_zero a))
      exact .bind (ih _ _ R2) fun f m ⟨R3, T3, d3⟩ => .mono (ih _ _ R3) fun g2 m2 ⟨R4, T4, d4⟩ => ⟨R4, fun q h1 h2 => T4 q (by omega) (.mk (by decide) ((h2.ro (by omega)).app (T3.ro (by omega))) h2.at), by omega⟩
    · exact .ok ⟨hl, fun q h1 h2 => h2, by omega⟩
  | opd =>
    simp only [stp']
    split
    · exact ih .suf l hl
    · split
      · next e =>
        obtain ⟨R1, d1⟩ := hl.tl (by rw [e]; decide)
        unfold tabP
        exact .bind (ih _ _ R1) fun f m ⟨R2, T2, d2⟩ => .need R2 (by decide) fun R3 d3 => .ok ⟨R3, .mk (by decide) (T2 _ (by omega) .nil) rfl, by omega⟩
      · split
        · next e =>
          obtain ⟨R1, d1⟩ := hl.tl (by omega)
          exact .bind (ih _ _ R1) fun f m ⟨R2, T2, d2⟩ => .ok ⟨R2, .mk (by decide) (T2.ro (by omega)) rfl, by omega⟩
        · split
          · next e =>
            obtain ⟨R1, d1⟩ := hl.tl (by rw [e]; decide)
            exact .ok ⟨R1, .mk (by decide) .nil rfl, d1⟩
          · split
            · next e =>
              obtain ⟨R1, d1⟩ := hl.tl (by rw [e]; decide)
              exact .ok ⟨R1, .mk (by decide) .nil rfl, d1⟩
            · split
              · next e =>
                obtain ⟨R1, d1⟩ := hl.tl (by rw [e]; decide)
                exact .ok ⟨R1, .mk (by decide) .nil rfl, d1⟩
              · split
                · next e =>
                  obtain ⟨R1, d1⟩ := hl.tl (by rw [e]; decide)
                  exact .ok ⟨R1, .mk (by decide) .nil rfl, d1⟩
                · split
                  · next e =>
                    obtain ⟨R1, d1⟩ := hl.tl (by rw [e]; decide)
                    exact .ok ⟨R1, .mk (by decide) .nil rfl, d1⟩
                  · exact hl.ha
  | suf =>
    exact .bind (or_stem ih hl) fun f m ⟨R1, T1, d1⟩ => .mono (ih _ _ R1) fun g m2 ⟨R2, T2, d2⟩ => ⟨R2, T2 _ (by omega) T1, by omega⟩
  | sufl f =>
    simp only [stp']
    split
    · next e =>
      obtain ⟨R2, d2⟩ := hl.tl (by rw [e]; decide)
      exact .bind (ih _ _ R2) fun k m ⟨R3, T3, d3⟩ => .need R3 (by decide) fun R4 d4 => .mono (ih _ _ R4) fun g2 m2 ⟨R5, T5, d5⟩ => ⟨R5, fun q h1 h2 => T5 q (by omega) (.mk (by decide) ((h2.ro (by omega)).app (T3.ro (by omega))) h2.at), by omega⟩
    · split
      · next e =>
        obtain ⟨R2, d2⟩ := hl.tl (by rw [e]; decide)
        exact .nam R2 (by decide) fun k T3 R3 d3 => .mono (ih _ _ R3) fun g2 m2 ⟨R5, T5, d5⟩ => ⟨R5, fun q h1 h2 => T5 q (by omega) (.mk (by decide) ((h2.ro (by omega)).app (T3.ro (by omega))) h2.at), by omega⟩
      · split
        · next e =>
          obtain ⟨R2, d2⟩ := hl.tl (by rw [e]; decide)
          exact .bind (or_arg ih R2) fun k m ⟨R3, T3, d3⟩ => .mono (ih _ _ R3) fun g2 m2 ⟨R5, T5, d5⟩ => ⟨R5, fun q h1 h2 => T5 q (by omega) (.mk (by decide) (T3 _ (by omega) (h2.ro (by omega))) h2.at), by omega⟩
        · exact .ok ⟨hl, fun q h1 h2 => h2, by omega⟩
  | tab a =>
    simp only [stp']
    split
    · exact .ok ⟨hl, fun q h1 h2 => h2, by omega⟩
    · refine .bind (ih _ _ hl) fun f m ⟨R1, T1, d1⟩ => ?_
      split
      · next e =>
        obtain ⟨R2, d2⟩ := R1.tl (by omega)
        exact .mono (ih _ _ R2) fun g m2 ⟨R3, T3, d3⟩ => ⟨R3, fun q h1 h2 => T3 q (by omega) (h2.app (T1.ro h1)), by omega⟩
      · exact .ok ⟨R1, fun q h1 h2 => h2.app (T1.ro h1), by omega⟩
  | fld =>
    simp only [stp']
    split
    · next e =>
      obtain ⟨R1, d1⟩ := hl.tl (by rw [e]; decide)
      exact .bind (ih _ _ R1) fun k m ⟨R2, T2, d2⟩ => .need R2 (by decide) fun R3 d3 => .need R3 (by decide) fun R4 d4 => .bind (ih _ _ R4) fun v m2 ⟨R5, T5, d5⟩ => .ok ⟨R5, .mk (by decide) ((T2.ro (by omega)).app (T5.ro (by omega))) rfl, by omega⟩
    · split
      · next e =>
        obtain ⟨R1, d1⟩ := hl.tl (by rw [e.1]; decide)
        obtain ⟨R2, d2⟩ := R1.tl (by rw [e.2]; decide)
        exact .bind (ih _ _ R2) fun v m ⟨R3, T3, d3⟩ => .ok ⟨R3, .mk (by decide) ((Trp.ro (p := ha l) (.mk (by decide) .nil rfl) (by omega)).app (T3.ro (by omega))) rfl, by omega⟩
      · exact .bind (ih _ _ hl) fun v m ⟨R3, T3, d3⟩ => .ok ⟨R3, .mk (by decide) (T3.ro (by omega)) rfl, by omega⟩
end
/-- Every going through tells trees with their places in order; a refusal's place lies in the text. -/
theorem or_all {N : Int} : ∀ (n : Nat) (j : J) (l : List Tok), Rsp N l → Wpl N (pr n j l) fun f m => Rsp N m ∧ Opl j l f m
  | 0, _, _, _ => trivial
  | n + 1, j, l, h => or_step (or_all n) j l h

end Go.Proofs.YtlgkfhipobdcfaaGreatDoor

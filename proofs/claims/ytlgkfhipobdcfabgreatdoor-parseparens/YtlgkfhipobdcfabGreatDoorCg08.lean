/- The walk of Scan: a refusal is caught at the face. -/
import Derived.Test.YtlgkfhipobdcfabGreatDoorCg07
import Derived.Defers
import Derived.Recover
import Derived.Test.YtlgkfhipobdcfabGreatDoorCg00
namespace Go.Proofs.YtlgkfhipobdcfabGreatDoor
open Go.RowKit

theorem ta_yes (v : Value) (w : World) : (Instr.typeAssert (.iface 49 v) 20 49 true).run Tryz.prog w = .ok (.tuple #[v, .bool true]) w := by
  have hu := Tryz.underlying49
  unfold Instr.typeAssert
  simp_all [run_underlying hu, go_sem, Result.andThen]
theorem ta_nil (w : World) : (Instr.typeAssert .nilIface 20 49 true).run Tryz.prog w = .ok (.tuple #[.agg #[.int .i64 0, .int .i64 0], .bool false]) w := by
  have hu := Tryz.underlying49
  have hz : ∀ w, (zeroValue 49).run Tryz.prog w = .ok (.agg #[.int .i64 0, .int .i64 0]) w := fun w => by kernel_rfl
  unfold Instr.typeAssert
  simp_all [run_underlying hu, go_sem, Result.andThen]

set_option maxHeartbeats 1000000 in
theorem catch_idle (a : Nat) (w : World) :
    CallsD Tryz.prog 16 #[.pointer (some ⟨a, 0, none⟩), .pointer (some ⟨a + 1, 0, none⟩)] .returning w fun e u' w' => e = .returned (.tuple #[]) ∧ u' = .returning ∧ Below w.heap.size w w' := by
  have hta := ta_nil
  refine callsD_of_wpS Tryz.func16 rfl fun c₀ cs hu => ?_
  apply wpS_seq
  apply wpS_region
  simp [wpOpsS, go_sem, recoverD, hu, Tryz.ntmps16, Exit.thenS, hta]
  refine wpS_of_wp ?_
  change Code.wp Tryz.prog _ _ ⟨#[.pointer (some ⟨a, 0, none⟩), .pointer (some ⟨a + 1, 0, none⟩), .pointer (some ⟨w.heap.size, 0, none⟩), .bool false, .tuple #[.agg #[.int .i64 0, .int .i64 0], .bool false], .nilIface, .tuple #[.agg #[.int .i64 0, .int .i64 0], .bool false], .agg #[.int .i64 0, .int .i64 0], .bool false, undef, undef], []⟩ _
  go_wp2
  refine ⟨rfl, .returning, by cases c₀; simp_all, .tuple #[], by simp [results, Tryz.results16, go_sem], rfl, rfl, (Below.refl _ _).alloc (Nat.le_refl _) _⟩

theorem arr11 (p0 p1 v2 v3 v4 v5 v6 v7 v8 : Value) : #[p0, p1] ++ (((((((Array.replicate 9 undef).setIfInBounds 3 v5).setIfInBounds 4 v6).setIfInBounds 2 v4).setIfInBounds 5 v7).setIfInBounds 6 v8).setIfInBounds 0 v2).setIfInBounds 1 v3 = #[p0, p1, v2, v3, v4, v5, v6, v7, v8, undef, undef] := by kernel_rfl

set_option maxHeartbeats 1000000 in
theorem catch_panicking (a : Nat) (c x : Int) (older : List PanicEntry) (w : World) (u0 u1 u2 : Value) (h0 : w.cell? ⟨a, 0, none⟩ = some u0) (f0 : w.frozen? ⟨a, 0, none⟩ = false) (h1 : w.cell? ⟨a + 1, 0, none⟩ = some u1) (f1 : w.frozen? ⟨a + 1, 0, none⟩ = false) (h2 : w.cell? ⟨a + 1, 1, none⟩ = some u2) (f2 : w.frozen? ⟨a + 1, 1, none⟩ = false) (hlt : a + 1 < w.heap.size) :
    CallsD Tryz.prog 16 #[.pointer (some ⟨a, 0, none⟩), .pointer (some ⟨a + 1, 0, none⟩)] (.panicking ({ v := .iface 49 (.agg #[.int .i64 c, .int .i64 x]), recovered := false } :: older)) w fun e u' w' =>
      e = .returned (.tuple #[]) ∧ u' = .panicking ({ v := .iface 49 (.agg #[.int .i64 c, .int .i64 x]), recovered := true } :: older) ∧ w'.cell? ⟨a, 0, none⟩ = some (.slice none 0 0) ∧ w'.cell? ⟨a + 1, 0, none⟩ = some (.int .i64 c) ∧ w'.cell? ⟨a + 1, 1, none⟩ = some (.int .i64 x) ∧ Below a w w' := by
  have hta := ta_yes
  have g0 := alloc_cell (W := w) (b := a) (by omega) h0 (.cells #[.int .i64 c, .int .i64 x] 49)
  have g1 := alloc_cell (W := w) (b := a + 1) hlt h1 (.cells #[.int .i64 c, .int .i64 x] 49)
  have g2 := alloc_cell (W := w) (b := a + 1) hlt h2 (.cells #[.int .i64 c, .int .i64 x] 49)
  have k0 := alloc_frozen (W := w) (b := a) (by omega) f0 (.cells #[.int .i64 c, .int .i64 x] 49)
  have k1 := alloc_frozen (W := w) (b := a + 1) hlt f1 (.cells #[.int .i64 c, .int .i64 x] 49)
  have k2 := alloc_frozen (W := w) (b := a + 1) hlt f2 (.cells #[.int .i64 c, .int .i64 x] 49)
  refine callsD_of_wpS Tryz.func16 rfl fun c₀ cs hu => ?_
  apply wpS_seq
  apply wpS_region
  simp [wpOpsS, go_sem, recoverD, hu, Tryz.ntmps16, Exit.thenS, hta]
  refine wpS_of_wp ?_
  rw [arr11]
  go_wp2
  go_region
  all_goals
    refine ⟨rfl, .panicking ({ v := .iface 49 (.agg #[.int .i64 c, .int .i64 x]), recovered := true } :: older), by cases c₀; simp_all, .tuple #[], by simp [results, Tryz.results16, go_sem], rfl, rfl, ?_⟩
    refine ⟨by simp [go_sem, g0], by simp [go_sem, g1], by simp [go_sem, g2], ?_⟩
    exact (((((Below.refl a w).alloc (by omega) _).setCell (Nat.le_refl _) _).setCell (Nat.le_succ _) _).setCell (Nat.le_succ _) _).drew

/-- What Scan tells: tokens, a fault's number, its place. -/
def scT (l : List UInt8) : List Tok × Int × Int :=
  if 20000 < l.length then ([], 14, -1) else match scn l 0 [] with | .ok ts => (ts, 0, 0) | .bad c p => ([], c, p)

theorem own_base' {w : World} {base b' : Nat} {e : TypeId} {size : Nat} {v : Value} {n : Nat} {xs : List Value} (h : w.ownsRow base e size v n xs) (hb : b' ≤ base) : w.ownsRow b' e size v n xs := own_base h hb

set_option maxHeartbeats 2000000 in
theorem Scan_big (s : ByteArray) (w : World) (hb : 20000 < s.size) (hs : s.size ≤ 9223372036854775807) :
    Calls Tryz.prog 11 #[.string s] w fun e W' => e = .returned (.tuple #[.slice none 0 0, .agg #[.int .i64 14, .int .i64 (-1)]]) ∧ Below w.heap.size w W' := by
  have hmf : ∀ (fn : Fn) (first cap : Array Value) (w : World), (Instr.makeFunc fn first cap).run Tryz.prog w = .ok (.func fn first cap) w := fun _ _ _ _ => rfl
  go_enter_defers Tryz.func11, Tryz.ntmps11
  go_wp2
  simp [bodyPostD, Leaves, results, Tryz.results11, go_sem]
  exact ((Below.refl _ w).alloc (Nat.le_refl _) _).alloc (by simp) _

set_option maxHeartbeats 2000000 in
theorem Scan_small (s : ByteArray) (w : World) (hs : s.size ≤ 20000) (R : Res) (hR : scn (LD s 0) 0 [] = R) :
    Calls Tryz.prog 11 #[.string s] w fun e W' => ∃ v ts c p, e = .returned (.tuple #[v, .agg #[.int .i64 c, .int .i64 p]]) ∧ (ts, c, p) = (match R with | .ok ts => (ts, 0, 0) | .bad c p => ([], c, (p : Int))) ∧ W'.ownsRow w.heap.size 56 4 v ts.length (cellsT ts) ∧ Below w.heap.size w W' := by
  have hmf : ∀ (fn : Fn) (first cap : Array Value) (w : World), (Instr.makeFunc fn first cap).run Tryz.prog w = .ok (.func fn first cap) w := fun _ _ _ _ => rfl
  obtain ⟨V, hV⟩ : ∃ V, ((w.alloc (.cells #[.slice none 0 0] 36)).alloc (.cells #[.int .i64 0, .int .i64 0] 28)).alloc (.cells #[.string s, .slice none 0 0] 52) = V := ⟨_, rfl⟩
  have hVs : V.heap.size = w.heap.size + 3 := by rw [← hV]; simp
  have CS := scan_any (w.heap.size + 2) s V (by rw [← hV]; simp [go_sem]) (by rw [← hV]; simp [go_sem]) (by rw [← hV]; simp [go_sem]) (by omega) hs
  rw [hR] at CS
  have hBV : Below w.heap.size w V := by rw [← hV]; exact (((Below.refl _ w).alloc (Nat.le_refl _) _).alloc (by simp) _).alloc (by simp; omega) _
  have c0 : V.cell? ⟨w.heap.size, 0, none⟩ = some (.slice none 0 0) := by rw [← hV]; simp [go_sem]
  have c1 : V.cell? ⟨w.heap.size + 1, 0, none⟩ = some (.int .i64 0) := by rw [← hV]; simp [go_sem]
  have c2 : V.cell? ⟨w.heap.size + 1, 1, none⟩ = some (.int .i64 0) := by rw [← hV]; simp [go_sem]
  have d0 : V.frozen? ⟨w.heap.size, 0, none⟩ = false := by rw [← hV]; simp [go_sem]
  have d1 : V.frozen? ⟨w.heap.size + 1, 0, none⟩ = false := by rw [← hV]; simp [go_sem]
  have d2 : V.frozen? ⟨w.heap.size + 1, 1, none⟩ = false := by rw [← hV]; simp [go_sem]
  have HV : Hid (((w.alloc (.cells #[.slice none 0 0] 36)).alloc (.cells #[.int .i64 0, .int .i64 0] 28)).alloc (.cells #[.string s, .slice none 0 0] 52) = V) := hV
  cases R with
  | ok ts =>
    rw [← hV] at CS
    clear hV hR
    go_enter_defers Tryz.func11, Tryz.ntmps11
    go_wp2_with (go_at_call 17; refine CS.mono ?_; rintro e w1 ⟨rfl, h1, h2⟩; rw [HV.out] at h1 h2; obtain ⟨v, hv, hown⟩ := h1.tok; obtain ⟨av, cv, rfl⟩ := slice_shape hown; have q0 : w1.cell? ⟨w.heap.size, 0, none⟩ = some (.slice none 0 0) := (World.cell?_of_block (h2.block w.heap.size (by omega) (by omega))).trans c0; have q1 : w1.cell? ⟨w.heap.size + 1, 0, none⟩ = some (.int .i64 0) := (World.cell?_of_block (h2.block (w.heap.size + 1) (by omega) (by omega))).trans c1; have q2 : w1.cell? ⟨w.heap.size + 1, 1, none⟩ = some (.int .i64 0) := (World.cell?_of_block (h2.block (w.heap.size + 1) (by omega) (by omega))).trans c2; have r0 : w1.frozen? ⟨w.heap.size, 0, none⟩ = false := (World.frozen?_of_block (h2.block w.heap.size (by omega) (by omega))).trans d0; have r1 : w1.frozen? ⟨w.heap.size + 1, 0, none⟩ = false := (World.frozen?_of_block (h2.block (w.heap.size + 1) (by omega) (by omega))).trans d1; have r2 : w1.frozen? ⟨w.heap.size + 1, 1, none⟩ = false := (World.frozen?_of_block (h2.block (w.heap.size + 1) (by omega) (by omega))).trans d2)
    have hsz := h2.size
    obtain ⟨W3, hW3⟩ : ∃ W3, ((w1.setCell ⟨w.heap.size, 0, none⟩ (.slice av ts.length cv)).setCell ⟨w.heap.size + 1, 0, none⟩ (.int .i64 0)).setCell ⟨w.heap.size + 1, 1, none⟩ (.int .i64 0) = W3 := ⟨_, rfl⟩
    have hsz3 : W3.heap.size = w1.heap.size := by rw [← hW3]; simp
    have hown3 : W3.ownsRow (V.heap.size + 1) 56 4 (.slice av ts.length cv) ts.length (cellsT ts) := by
      rw [← hW3]
      exact ownsRow_setCell_below (ownsRow_setCell_below (ownsRow_setCell_below hown (by show w.heap.size < _; omega) _) (by show w.heap.size + 1 < _; omega) _) (by show w.heap.size + 1 < _; omega) _
    have hB3 : Below w.heap.size w W3 := by
      rw [← hW3]
      exact (((hBV.trans ((h2.below (by omega)).mono (by omega))).setCell (Nat.le_refl _) _).setCell (Nat.le_succ _) _).setCell (Nat.le_succ _) _
    have y0 : W3.cell? ⟨w.heap.size, 0, none⟩ = some (.slice av ts.length cv) := by rw [← hW3]; simp [go_sem, q0]
    have y1 : W3.cell? ⟨w.heap.size + 1, 0, none⟩ = some (.int .i64 0) := by rw [← hW3]; simp [go_sem, q1]
    have y2 : W3.cell? ⟨w.heap.size + 1, 1, none⟩ = some (.int .i64 0) := by rw [← hW3]; simp [go_sem, q2]
    rw [hW3]
    refine leaves_cons (f := 16) (args := #[.pointer (some ⟨w.heap.size, 0, none⟩), .pointer (some ⟨w.heap.size + 1, 0, none⟩)]) (by simp) (by simp [go_sem]) ?_
    refine (catch_idle w.heap.size W3).mono ?_
    rintro e u' w2 ⟨rfl, rfl, hB⟩
    have z0 := (hB.cell (p := ⟨w.heap.size, 0, none⟩) (by show w.heap.size < _; omega)).trans y0
    have z1 := (hB.cell (p := ⟨w.heap.size + 1, 0, none⟩) (by show w.heap.size + 1 < _; omega)).trans y1
    have z2 := (hB.cell (p := ⟨w.heap.size + 1, 1, none⟩) (by show w.heap.size + 1 < _; omega)).trans y2
    refine ⟨.tuple #[.slice av ts.length cv, .agg #[.int .i64 0, .int .i64 0]], by simp [results, Tryz.results11, go_sem, z0, z1, z2], ?_⟩
    exact ⟨_, ts, 0, 0, rfl, rfl, own_base (own_below hown3 hB) (by omega), hB3.trans (hB.mono (by omega))⟩
  | bad c p =>
    rw [← hV] at CS
    clear hV hR
    go_enter_defers Tryz.func11, Tryz.ntmps11
    go_wp2_with (go_at_call 17; refine CS.mono ?_; rintro e w1 ⟨he, h2⟩; unfold refu at he; subst he)
    rw [HV.out] at h2
    have hb2 : ∀ k, k < w.heap.size + 2 → w1.heap[k]? = V.heap[k]? := fun k hk => h2.block k (by omega) (by omega)
    have hsz := h2.size
    refine leaves_cons (f := 16) (args := #[.pointer (some ⟨w.heap.size, 0, none⟩), .pointer (some ⟨w.heap.size + 1, 0, none⟩)]) (by simp) (by simp [go_sem]) ?_
    refine (catch_panicking w.heap.size c p [] w1 _ _ _ ((World.cell?_of_block (hb2 w.heap.size (by omega))).trans c0) ((World.frozen?_of_block (hb2 w.heap.size (by omega))).trans d0) ((World.cell?_of_block (hb2 (w.heap.size + 1) (by omega))).trans c1) ((World.frozen?_of_block (hb2 (w.heap.size + 1) (by omega))).trans d1) ((World.cell?_of_block (hb2 (w.heap.size + 1) (by omega))).trans c2) ((World.frozen?_of_block (hb2 (w.heap.size + 1) (by omega))).trans d2) (by omega)).mono ?_
    rintro e u' w2 ⟨rfl, rfl, k0, k1, k2, hB⟩
    simp [Leaves, settle, results, Tryz.results11, go_sem, k0, k1, k2]
    exact ⟨_, [], c, p, ⟨rfl, rfl, rfl⟩, ⟨rfl, rfl, rfl⟩, World.ownsRow_nil _ _ _ _, (hBV.trans ((h2.below (by omega)).mono (by omega))).trans hB⟩

theorem scT_len (s : ByteArray) : s.data.toList.length = s.size := Array.length_toList

/-- Scan, whole. -/
theorem Scan_any (s : ByteArray) (w : World) (hs : s.size ≤ 9223372036854775807) :
    Calls Tryz.prog 11 #[.string s] w fun e W' => ∃ v, e = .returned (.tuple #[v, .agg #[.int .i64 (scT s.data.toList).2.1, .int .i64 (scT s.data.toList).2.2]]) ∧ W'.ownsRow w.heap.size 56 4 v (scT s.data.toList).1.length (cellsT (scT s.data.toList).1) ∧ Below w.heap.size w W' := by
  by_cases hb : 20000 < s.size
  · refine (Scan_big s w hb hs).mono fun e W' ⟨he, hB⟩ => ?_
    have : scT s.data.toList = ([], 14, -1) := by unfold scT; rw [scT_len, if_pos hb]
    rw [this]
    exact ⟨_, he, World.ownsRow_nil _ _ _ _, hB⟩
  · refine (Scan_small s w (by omega) _ rfl).mono fun e W' ⟨v, ts, c, p, he, h1, h2, hB⟩ => ?_
    have : scT s.data.toList = (ts, c, p) := by
      unfold scT
      rw [scT_len, if_neg hb, h1]
      rfl
    rw [this]
    exact ⟨v, he, h2, hB⟩

end Go.Proofs.YtlgkfhipobdcfabGreatDoor

/- Plain facts on the bytes of a text's runes (no program in it): where the k-th rune begins; the runes' bytes are the text's. -/
namespace Go.Proofs.YtlgkfhipobdcfabGreatDoor

/-- Where the k-th rune begins. -/
def pos (s : ByteArray) : Nat → Nat
  | 0 => 0
  | k + 1 => if pos s k < s.size then pos s k + wd s (pos s k) else pos s k

theorem pos_le (s : ByteArray) : ∀ k, pos s k ≤ s.size
  | 0 => Nat.zero_le _
  | k + 1 => by
    have := pos_le s k
    rw [pos]
    split
    · exact wd_le s _ (by assumption)
    · exact this

theorem drop_pos (s : ByteArray) : ∀ k, (rest s 0).drop k = rest s (pos s k)
  | 0 => rfl
  | k + 1 => by
    have ih := drop_pos s k
    rw [← List.drop_drop, ih, pos]
    split
    · rename_i h; rw [rest_at s _ h]; rfl
    · rename_i h; rw [rest_end s _ h]; rfl

theorem pos_lt (s : ByteArray) (k : Nat) (h : k < (rest s 0).length) : pos s k < s.size := by
  rcases Nat.lt_or_ge (pos s k) s.size with h1 | h1
  · exact h1
  · have h2 := drop_pos s k
    have h3 := rest_end s (pos s k) (by omega)
    have := List.drop_eq_nil_iff.1 (h2.trans h3)
    omega

theorem get_pos (s : ByteArray) (k : Nat) (h : k < (rest s 0).length) : (rest s 0)[k] = (pos s k, wd s (pos s k), rn s (pos s k)) := by
  have h1 := drop_pos s k
  rw [rest_at s _ (pos_lt s k h), List.drop_eq_getElem_cons h] at h1
  exact (List.cons.inj h1).1

theorem pos_succ (s : ByteArray) (k : Nat) (h : k < (rest s 0).length) : pos s (k + 1) = pos s k + wd s (pos s k) := by
  rw [pos, if_pos (pos_lt s k h)]

theorem pos_end (s : ByteArray) (k : Nat) (h : (rest s 0).length ≤ k) : pos s k = s.size := by
  have h1 := drop_pos s k
  rw [List.drop_eq_nil_of_le h] at h1
  rcases Nat.lt_or_ge (pos s k) s.size with h2 | h2
  · rw [rest_at s _ h2] at h1; cases h1
  · have := pos_le s k; omega

theorem pos_mono (s : ByteArray) (i j : Nat) (h : i ≤ j) : pos s i ≤ pos s j := by
  induction j with
  | zero => have : i = 0 := by omega
            subst this; exact Nat.le_refl _
  | succ j ih =>
    rcases Nat.lt_or_ge j i with h1 | h1
    · have : i = j + 1 := by omega
      subst this; exact Nat.le_refl _
    · have := ih h1
      rw [pos]
      split <;> omega

theorem mid_pos (s : ByteArray) (done : List Rn) (r : Rn) (l : List Rn) (h : rest s 0 = done ++ r :: l) : r = (pos s done.length, wd s (pos s done.length), rn s (pos s done.length)) ∧ pos s done.length < s.size := by
  have hk : done.length < (rest s 0).length := by rw [h]; simp
  have h1 := get_pos s done.length hk
  refine ⟨?_, pos_lt s _ hk⟩
  rw [← h1]
  simp [h]

/-- A rune's bytes; those of a list. -/
def rb (s : ByteArray) (r : Rn) : List UInt8 := (s.extract r.1 (r.1 + r.2.1)).data.toList
def bytesOf (s : ByteArray) (l : List Rn) : List UInt8 := l.flatMap (rb s)
theorem rb_eq (s : ByteArray) (r : Rn) : rb s r = (s.data.toList.drop r.1).take r.2.1 := by
  unfold rb
  simp [ByteArray.data_extract, Array.toList_extract]
theorem bytesOf_append (s : ByteArray) (a b : List Rn) : bytesOf s (a ++ b) = bytesOf s a ++ bytesOf s b := by simp [bytesOf]
theorem bytesOf_snoc (s : ByteArray) (a : List Rn) (r : Rn) : bytesOf s (a ++ [r]) = bytesOf s a ++ rb s r := by simp [bytesOf]

theorem bytes_rest (s : ByteArray) (p : Nat) : bytesOf s (rest s p) = s.data.toList.drop p := by
  by_cases h : p < s.size
  · have ih := bytes_rest s (p + wd s p)
    rw [rest_at s p h]
    show rb s _ ++ bytesOf s (rest s (p + wd s p)) = _
    rw [ih, rb_eq, ← List.drop_drop]
    exact List.take_append_drop _ _
  · rw [rest_end s p h]
    exact (List.drop_eq_nil_of_le (by rw [Array.length_toList]; exact Nat.le_of_not_lt h)).symm
termination_by s.size - p
decreasing_by have := wd_pos s p; omega

theorem bytes_drop (s : ByteArray) (k : Nat) : bytesOf s ((rest s 0).drop k) = s.data.toList.drop (pos s k) := by
  rw [drop_pos, bytes_rest]

theorem bytes_take (s : ByteArray) (k : Nat) : bytesOf s ((rest s 0).take k) = s.data.toList.take (pos s k) := by
  have h1 : bytesOf s ((rest s 0).take k) ++ bytesOf s ((rest s 0).drop k) = s.data.toList.take (pos s k) ++ s.data.toList.drop (pos s k) := by
    rw [← bytesOf_append, List.take_append_drop, List.take_append_drop, bytes_rest, List.drop_zero]
  exact List.append_inj_left' h1 (by rw [bytes_drop])

/-- The bytes of the runes from i on, below j. -/
theorem bytes_mid (s : ByteArray) (i j : Nat) (h : i ≤ j) : bytesOf s (((rest s 0).take j).drop i) = (s.data.toList.take (pos s j)).drop (pos s i) := by
  have h1 : bytesOf s (((rest s 0).take j).take i) ++ bytesOf s (((rest s 0).take j).drop i) = (s.data.toList.take (pos s j)).take (pos s i) ++ (s.data.toList.take (pos s j)).drop (pos s i) := by
    rw [← bytesOf_append, List.take_append_drop, List.take_append_drop, bytes_take]
  have h2 : bytesOf s (((rest s 0).take j).take i) = (s.data.toList.take (pos s j)).take (pos s i) := by
    rw [List.take_take, List.take_take, Nat.min_eq_left h, Nat.min_eq_left (pos_mono s i j h), bytes_take]
  rw [h2] at h1
  exact List.append_cancel_left h1

theorem bytes_none (s : ByteArray) (L : List Rn) (i j : Nat) (h : j ≤ i) : bytesOf s ((L.take j).drop i) = [] := by
  rw [List.drop_eq_nil_of_le (by rw [List.length_take]; omega)]
  rfl

theorem bytes_take_le (s : ByteArray) (l : List Rn) (k : Nat) : (bytesOf s (l.take k)).length ≤ (bytesOf s l).length := by
  have h := congrArg (fun x => (bytesOf s x).length) (List.take_append_drop k l)
  simp only [bytesOf_append, List.length_append] at h
  omega
theorem bytes_drop_le (s : ByteArray) (l : List Rn) (k : Nat) : (bytesOf s (l.drop k)).length ≤ (bytesOf s l).length := by
  have h := congrArg (fun x => (bytesOf s x).length) (List.take_append_drop k l)
  simp only [bytesOf_append, List.length_append] at h
  omega

/-- As many bytes at most as the text has. -/
theorem bytes_len (s : ByteArray) (done : List Rn) (r : Rn) (l : List Rn) (h : rest s 0 = done ++ r :: l) : (bytesOf s done).length + r.2.1 ≤ s.size ∧ (rb s r).length = r.2.1 := by
  obtain ⟨hr, hp⟩ := mid_pos s done r l h
  have hw := wd_le s _ hp
  have h1 := bytes_take s done.length
  rw [h, List.take_left] at h1
  have hsz : s.data.toList.length = s.size := Array.length_toList
  rw [h1, List.length_take, hsz, hr]
  refine ⟨by simp only; omega, ?_⟩
  rw [rb_eq, List.length_take, List.length_drop, hsz]
  simp only; omega

/-- One rune more, of those from i on, below j. -/
theorem mid_snoc_in (done : List Rn) (r : Rn) (i j : Nat) (h1 : i ≤ done.length) (h2 : done.length < j) : ((done ++ [r]).take j).drop i = (done.take j).drop i ++ [r] := by
  rw [List.take_of_length_le (by simp; omega), List.take_of_length_le (by omega), List.drop_append_of_le_length h1]
theorem mid_snoc_out (done : List Rn) (r : Rn) (i j : Nat) (h : ¬ (i ≤ done.length ∧ done.length < j)) : ((done ++ [r]).take j).drop i = (done.take j).drop i := by
  by_cases h2 : done.length < j
  · have h1 : done.length < i := by omega
    rw [List.drop_eq_nil_of_le (by rw [List.length_take]; simp; omega), List.drop_eq_nil_of_le (by rw [List.length_take]; omega)]
  · rw [List.take_append_of_le_length (by omega)]

/-- Stopping behind rune number j - 1 changes nothing of the runes below j. -/
theorem take_runTo (j : Int) (l : List Rn) : ∀ done, (runTo (fun d => decide ((d.length : Int) < j)) done l).take j.toNat = (done ++ l).take j.toNat := by
  induction l with
  | nil => intro done; simp [runTo]
  | cons r l ih =>
    intro done
    rw [runTo]
    by_cases h : ((done ++ [r]).length : Int) < j
    · rw [if_pos (decide_eq_true h), ih]; simp
    · rw [if_neg (by simpa using h)]
      have e : done ++ r :: l = (done ++ [r]) ++ l := by simp
      rw [e, List.take_append_of_le_length (l₁ := done ++ [r]) (by omega)]

end Go.Proofs.YtlgkfhipobdcfabGreatDoor

/- Plain facts on valid runes (no program in it): a valid rune is read the same wherever its bytes stand. -/
namespace Go.Proofs.YtlgkfhipobdcfabGreatDoor

theorem decodeN_local (n n' b0 b1 b2 b3 c1 c2 c3 : Nat) (hg : ¬ ((Lib.decodeN n b0 b1 b2 b3).1 = 65533 ∧ (Lib.decodeN n b0 b1 b2 b3).2 = 1)) (hn : (Lib.decodeN n b0 b1 b2 b3).2 ≤ n')
    (h1 : 2 ≤ (Lib.decodeN n b0 b1 b2 b3).2 → c1 = b1) (h2 : 3 ≤ (Lib.decodeN n b0 b1 b2 b3).2 → c2 = b2) (h3 : 4 ≤ (Lib.decodeN n b0 b1 b2 b3).2 → c3 = b3) :
    Lib.decodeN n' b0 c1 c2 c3 = Lib.decodeN n b0 b1 b2 b3 := by
  by_cases a1 : b0 < 128
  · unfold Lib.decodeN; rw [if_pos a1, if_pos a1]
  by_cases a2 : b0 / 32 = 6 ∧ 1 < n ∧ b1 / 64 = 2
  · by_cases a3 : b0 % 32 * 64 + b1 % 64 ≥ 128
    · have e : Lib.decodeN n b0 b1 b2 b3 = (b0 % 32 * 64 + b1 % 64, 2) := by unfold Lib.decodeN; rw [if_neg a1, if_pos a2, if_pos a3]
      rw [e] at hn h1 ⊢
      obtain rfl := h1 (Nat.le_refl _)
      unfold Lib.decodeN
      rw [if_neg a1, if_pos ⟨a2.1, hn, a2.2.2⟩, if_pos a3]
    · have e : Lib.decodeN n b0 b1 b2 b3 = (65533, 1) := by unfold Lib.decodeN; rw [if_neg a1, if_pos a2, if_neg a3]
      rw [e] at hg; simp at hg
  by_cases a4 : b0 / 16 = 14 ∧ (1 < n ∧ b1 / 64 = 2) ∧ 2 < n ∧ b2 / 64 = 2
  · by_cases a5 : b0 % 16 * 4096 + b1 % 64 * 64 + b2 % 64 ≥ 2048 ∧ (b0 % 16 * 4096 + b1 % 64 * 64 + b2 % 64 < 55296 ∨ 57344 ≤ b0 % 16 * 4096 + b1 % 64 * 64 + b2 % 64 ∧ b0 % 16 * 4096 + b1 % 64 * 64 + b2 % 64 ≤ 1114111)
    · have e : Lib.decodeN n b0 b1 b2 b3 = (b0 % 16 * 4096 + b1 % 64 * 64 + b2 % 64, 3) := by unfold Lib.decodeN; rw [if_neg a1, if_neg a2, if_pos a4, if_pos a5]
      rw [e] at hn h1 h2 ⊢
      obtain rfl := h1 (show 2 ≤ 3 by omega)
      obtain rfl := h2 (Nat.le_refl _)
      have hn' : 3 ≤ n' := hn
      unfold Lib.decodeN
      rw [if_neg a1, if_neg (by omega), if_pos ⟨a4.1, ⟨by omega, a4.2.1.2⟩, by omega, a4.2.2.2⟩, if_pos a5]
    · have e : Lib.decodeN n b0 b1 b2 b3 = (65533, 1) := by unfold Lib.decodeN; rw [if_neg a1, if_neg a2, if_pos a4, if_neg a5]
      rw [e] at hg; simp at hg
  by_cases a6 : b0 / 8 = 30 ∧ (1 < n ∧ b1 / 64 = 2) ∧ (2 < n ∧ b2 / 64 = 2) ∧ 3 < n ∧ b3 / 64 = 2
  · by_cases a7 : b0 % 8 * 262144 + b1 % 64 * 4096 + b2 % 64 * 64 + b3 % 64 ≥ 65536 ∧ (b0 % 8 * 262144 + b1 % 64 * 4096 + b2 % 64 * 64 + b3 % 64 < 55296 ∨ 57344 ≤ b0 % 8 * 262144 + b1 % 64 * 4096 + b2 % 64 * 64 + b3 % 64 ∧ b0 % 8 * 262144 + b1 % 64 * 4096 + b2 % 64 * 64 + b3 % 64 ≤ 1114111)
    · have e : Lib.decodeN n b0 b1 b2 b3 = (b0 % 8 * 262144 + b1 % 64 * 4096 + b2 % 64 * 64 + b3 % 64, 4) := by unfold Lib.decodeN; rw [if_neg a1, if_neg a2, if_neg a4, if_pos a6, if_pos a7]
      rw [e] at hn h1 h2 h3 ⊢
      obtain rfl := h1 (show 2 ≤ 4 by omega)
      obtain rfl := h2 (show 3 ≤ 4 by omega)
      obtain rfl := h3 (Nat.le_refl _)
      have hn' : 4 ≤ n' := hn
      unfold Lib.decodeN
      rw [if_neg a1, if_neg (by omega), if_neg (by omega), if_pos ⟨a6.1, ⟨by omega, a6.2.1.2⟩, ⟨by omega, a6.2.2.1.2⟩, by omega, a6.2.2.2.2⟩, if_pos a7]
    · have e : Lib.decodeN n b0 b1 b2 b3 = (65533, 1) := by unfold Lib.decodeN; rw [if_neg a1, if_neg a2, if_neg a4, if_pos a6, if_neg a7]
      rw [e] at hg; simp at hg
  · have e : Lib.decodeN n b0 b1 b2 b3 = (65533, 1) := by unfold Lib.decodeN; rw [if_neg a1, if_neg a2, if_neg a4, if_neg a6]
    rw [e] at hg; simp at hg

/-- A valid rune. -/
def okR (r : Rn) : Prop := ¬ (r.2.2 = 65533 ∧ r.2.1 = 1)

theorem decode_local (s t : ByteArray) (p q : Nat) (hg : okR (p, wd s p, rn s p)) (hn : q + wd s p ≤ t.size) (hb : ∀ i, i < wd s p → t.get! (q + i) = s.get! (p + i)) : wd t q = wd s p ∧ rn t q = rn s p := by
  have h0 := wd_pos s p
  unfold okR at hg
  simp only at hg
  have key : Utf8.decode t q = Utf8.decode s p := by
    unfold wd rn at *
    rw [Lib.decode_at s p] at *
    rw [Lib.decode_at t q]
    have e0 : (t.get! q).toNat = (s.get! p).toNat := by have := hb 0 (by omega); simp only [Nat.add_zero] at this; rw [this]
    rw [e0]
    exact decodeN_local _ _ _ _ _ _ _ _ _ hg (by omega) (fun h => by rw [hb 1 (by omega)]) (fun h => by rw [hb 2 (by omega)]) (fun h => by rw [hb 3 (by omega)])
  unfold wd rn
  rw [key]
  exact ⟨rfl, rfl⟩

/-- Where a row of runes ends that begins at p. -/
def en (p : Nat) : List Rn → Nat
  | [] => p
  | r :: A => en (p + r.2.1) A
theorem en_ge : ∀ (A : List Rn) (p : Nat), p ≤ en p A
  | [], p => Nat.le_refl p
  | r :: A, p => Nat.le_trans (Nat.le_add_right p r.2.1) (en_ge A _)
theorem rest_en (s : ByteArray) : ∀ (A l : List Rn) (p : Nat), rest s p = A ++ l → l = rest s (en p A)
  | [], l, p, h => h.symm
  | r :: A, l, p, h => by
    rcases Nat.lt_or_ge p s.size with h1 | h1
    · rw [rest_at s p h1] at h
      obtain ⟨h2, h3⟩ := List.cons.inj h
      subst h2
      exact rest_en s A l _ h3
    · rw [rest_end s p (by omega)] at h; cases h
theorem en_le (s : ByteArray) : ∀ (A l : List Rn) (p : Nat), p ≤ s.size → rest s p = A ++ l → en p A ≤ s.size
  | [], _, _, hp, _ => hp
  | r :: A, l, p, _, h => by
    rcases Nat.lt_or_ge p s.size with h1 | h1
    · rw [rest_at s p h1] at h
      obtain ⟨h2, h3⟩ := List.cons.inj h
      subst h2
      exact en_le s A l _ (wd_le s p h1) h3
    · rw [rest_end s p (by omega)] at h; cases h
/-- A rune behind a row of runes begins where it ends. -/
theorem en_at (s : ByteArray) (A l : List Rn) (r : Rn) (p : Nat) (h : rest s p = A ++ r :: l) : r.1 = en p A := by
  have h1 := rest_en s A (r :: l) p h
  rcases Nat.lt_or_ge (en p A) s.size with h2 | h2
  · rw [rest_at s _ h2] at h1
    rw [(List.cons.inj h1).1]
  · rw [rest_end s _ (by omega)] at h1; cases h1
theorem en_allB (s : ByteArray) (p : Nat) (hp : p ≤ s.size) : en p (rest s p) = s.size := by
  have h1 := en_le s (rest s p) [] p hp (by simp)
  have h2 := rest_en s (rest s p) [] p (by simp)
  rcases Nat.lt_or_ge (en p (rest s p)) s.size with h3 | h3
  · rw [rest_at s _ h3] at h2; cases h2
  · omega

/-- Valid runes at a text's begin are there in each text that has the same bytes there. -/
theorem rest_agree (s x : ByteArray) : ∀ (A l : List Rn) (p : Nat), rest s p = A ++ l → (∀ r ∈ A, okR r) → en p A ≤ x.size → (∀ i, p ≤ i → i < en p A → x.get! i = s.get! i) → rest x p = A ++ rest x (en p A)
  | [], _, _, _, _, _, _ => rfl
  | r :: A, l, p, h, hg, hx, hb => by
    rcases Nat.lt_or_ge p s.size with h1 | h1
    · rw [rest_at s p h1] at h
      obtain ⟨h2, h3⟩ := List.cons.inj h
      subst h2
      have hw := wd_pos s p
      have hge := en_ge A (p + wd s p)
      have hen : en p ((p, wd s p, rn s p) :: A) = en (p + wd s p) A := rfl
      rw [hen] at hx hb
      obtain ⟨k1, k2⟩ := decode_local s x p p (hg _ (by simp)) (by omega) (fun i hi => hb (p + i) (by omega) (by omega))
      have ih := rest_agree s x A l _ h3 (fun r hr => hg r (by simp [hr])) hx (fun i h4 h5 => hb i (by omega) h5)
      rw [rest_at x p (by omega), k1, k2, ih, hen]
      rfl
    · rw [rest_end s p (by omega)] at h; cases h

/-- A valid rune's bytes are read as one rune wherever they stand. -/
def Chunk (c : List UInt8) : Prop := c ≠ [] ∧ ∀ (t : ByteArray) (q : Nat), (t.data.toList.drop q).take c.length = c → wd t q = c.length
theorem chunk_of (s : ByteArray) (p : Nat) (hp : p < s.size) (hg : okR (p, wd s p, rn s p)) : Chunk (rb s (p, wd s p, rn s p)) := by
  have hw := wd_pos s p
  have hl := wd_le s p hp
  have hsz : ∀ x : ByteArray, x.data.toList.length = x.size := fun x => Array.length_toList
  have hlen : (rb s (p, wd s p, rn s p)).length = wd s p := by rw [rb_eq, List.length_take, List.length_drop, hsz]; simp only; omega
  refine ⟨fun h => by rw [h] at hlen; simp at hlen; omega, fun t q h => ?_⟩
  rw [hlen] at h ⊢
  have hlt : q + wd s p ≤ t.size := by
    have h1 := congrArg List.length h
    rw [hlen, List.length_take, List.length_drop, hsz] at h1
    omega
  refine (decode_local s t p q hg hlt (fun i hi => ?_)).1
  rw [rb_eq] at h
  simp only at h
  have h1 := congrArg (fun l => l.getD i 0) h
  simp only [List.getD, List.getElem?_take_of_lt hi, List.getElem?_drop] at h1
  rw [get_data, get_data]
  exact h1

theorem chunks_rest (t : ByteArray) : ∀ (cs : List (List UInt8)) (q : Nat), (∀ c ∈ cs, Chunk c) → t.data.toList.drop q = cs.flatten → (rest t q).map (rb t) = cs
  | [], q, _, h => by
    have : ¬ q < t.size := fun h1 => by
      have h2 := congrArg List.length h
      rw [List.length_drop] at h2
      have : t.data.toList.length = t.size := Array.length_toList
      simp at h2
      have h3 : t.data.size = t.size := rfl
      omega
    rw [rest_end t q this]; rfl
  | c :: cs, q, hc, h => by
    rw [List.flatten_cons] at h
    obtain ⟨hne, hch⟩ := hc c (by simp)
    have ht : (t.data.toList.drop q).take c.length = c := by rw [h]; exact List.take_left
    have hw := hch t q ht
    have hcl : 0 < c.length := List.length_pos_iff.2 hne
    have hq : q < t.size := by
      rcases Nat.lt_or_ge q t.size with h1 | h1
      · exact h1
      · have h2 : t.data.toList.drop q = [] := List.drop_eq_nil_of_le (by rw [Array.length_toList]; exact h1)
        rw [h2] at ht
        simp at ht
        exact absurd ht hne
    have ih := chunks_rest t cs (q + c.length) (fun d hd => hc d (by simp [hd])) (by rw [← List.drop_drop, h]; exact List.drop_left)
    rw [rest_at t q hq, List.map_cons, hw, ih, rb_eq]
    simp only
    rw [ht]

theorem bytesOf_rev (s : ByteArray) (l : List Rn) : bytesOf s l.reverse = (l.map (rb s)).reverse.flatten := by
  rw [bytesOf, List.flatMap_def, List.map_reverse]

/-- A valid text turned twice is the text. -/
theorem turn_twice (s : ByteArray) (hg : ∀ r ∈ rest s 0, okR r) : bytesOf ⟨(bytesOf s (rest s 0).reverse).toArray⟩ (rest ⟨(bytesOf s (rest s 0).reverse).toArray⟩ 0).reverse = s.data.toList := by
  have hch : ∀ c ∈ ((rest s 0).map (rb s)).reverse, Chunk c := by
    intro c hc
    rw [List.mem_reverse, List.mem_map] at hc
    obtain ⟨r, hr, rfl⟩ := hc
    obtain ⟨k, hk, rfl⟩ := List.getElem_of_mem hr
    have h1 := hg _ hr
    rw [get_pos s k hk] at h1 ⊢
    exact chunk_of s _ (pos_lt s k hk) h1
  have h2 := chunks_rest ⟨(bytesOf s (rest s 0).reverse).toArray⟩ _ 0 hch (by rw [List.drop_zero, ← bytesOf_rev])
  rw [bytesOf_rev, h2, List.reverse_reverse, ← List.flatMap_def]
  exact (bytes_rest s 0).trans (List.drop_zero)

end Go.Proofs.YtlgkfhipobdcfabGreatDoor

/- Plain facts (no program in it): how a text's tokens stand in it; where a fault stands. -/
namespace Go.Proofs.YtlgkfhipobdcfabGreatDoor
open Go.RowKit

/-- A fault's number is none of nought, and it stands in the text. -/
theorem qt_badc (q : UInt8) : ∀ (m : Nat) (l : List UInt8) (i : Nat) (acc : List UInt8), l.length ≤ m → ∀ c o, qt q l i acc = .bad c o → c ≠ 0 ∧ o < i + l.length + 1
  | 0, l, i, acc, hm, c, o, h => by
    have : l = [] := List.eq_nil_of_length_eq_zero (by omega)
    subst this; rw [qt_nil] at h; cases h; exact ⟨by omega, by omega⟩
  | m + 1, [], i, acc, _, c, o, h => by rw [qt_nil] at h; cases h; exact ⟨by omega, by omega⟩
  | m + 1, x :: t, i, acc, hm, c, o, h => by
    simp only [List.length_cons] at hm ⊢
    rw [qt] at h
    split at h
    · cases h; exact ⟨by omega, by omega⟩
    · split at h
      · split at h
        · cases h; exact ⟨by omega, by omega⟩
        · cases h
      · split at h
        · split at h
          · cases h; exact ⟨by omega, by omega⟩
          · split at h
            · cases h; exact ⟨by omega, by omega⟩
            · have h2 := (esc_take t).1
              have := qt_badc q m _ _ _ (by rw [List.length_drop]; omega) c o h
              rw [List.length_drop] at this
              exact ⟨this.1, by omega⟩
        · have := qt_badc q m t _ _ (by omega) c o h
          exact ⟨this.1, by omega⟩

/-- In a string a fault stands at the opening quote or at a backslash. -/
theorem qt_bado (q : UInt8) : ∀ (m : Nat) (l : List UInt8) (i : Nat) (acc : List UInt8), l.length ≤ m → ∀ c o, qt q l i acc = .bad c o → o = 0 ∨ o < i + l.length
  | 0, l, i, acc, hm, c, o, h => by
    have : l = [] := List.eq_nil_of_length_eq_zero (by omega)
    subst this; rw [qt_nil] at h; cases h; exact .inl rfl
  | m + 1, [], i, acc, _, c, o, h => by rw [qt_nil] at h; cases h; exact .inl rfl
  | m + 1, x :: t, i, acc, hm, c, o, h => by
    simp only [List.length_cons] at hm ⊢
    rw [qt] at h
    split at h
    · cases h; exact .inl rfl
    · split at h
      · split at h
        · cases h; exact .inl rfl
        · cases h
      · split at h
        · split at h
          · cases h; exact .inl rfl
          · split at h
            · cases h; right; omega
            · have h2 := (esc_take t).1
              have := qt_bado q m _ _ _ (by rw [List.length_drop]; omega) c o h
              rw [List.length_drop] at this
              omega
        · have := qt_bado q m t _ _ (by omega) c o h
          omega

theorem stp_badc (l : List UInt8) (hl : l ≠ []) (c : Int) (o : Nat) (h : stp l = .bad c o) : c ≠ 0 ∧ o < l.length := by
  have hlen := List.length_pos_iff.2 hl
  unfold stp at h
  split at h
  · cases h
  · split at h
    · cases h
    · split at h
      · split at h
        · cases h; exact ⟨by omega, hlen⟩
        · cases h
      · split at h
        · split at h
          · rename_i hz
            cases h; exact ⟨hz, hlen⟩
          · cases h
        · split at h
          · split at h
            · cases h
            · rename_i hq
              cases h
              have h1 := qt_badc _ _ _ _ _ (Nat.le_refl _) _ _ hq
              have h2 := qt_bado _ _ _ _ _ (Nat.le_refl _) _ _ hq
              rw [List.length_drop] at h2
              exact ⟨h1.1, by omega⟩
          · split at h
            · cases h; exact ⟨by omega, hlen⟩
            · cases h

theorem scn_badc : ∀ (m : Nat) (l : List UInt8) (p : Nat) (acc : List Tok), l.length ≤ m → ∀ c q, scn l p acc = .bad c q → c ≠ 0 ∧ q < p + l.length
  | 0, l, p, acc, hm, c, q, h => by
    have : l = [] := List.eq_nil_of_length_eq_zero (by omega)
    subst this; rw [scn_nil] at h; cases h
  | m + 1, [], p, acc, _, c, q, h => by rw [scn_nil] at h; cases h
  | m + 1, x :: u, p, acc, hm, c, q, h => by
    have hp := stp_pos (x :: u) (by simp)
    cases hs : stp (x :: u) with
    | skip n =>
      rw [scn_skip (by simp) hs] at h
      obtain ⟨h1, h2⟩ := hp.1 n hs
      have := scn_badc m _ _ _ (by rw [List.length_drop]; omega) c q h
      rw [List.length_drop] at this
      exact ⟨this.1, by omega⟩
    | tok k t v n =>
      rw [scn_tok (by simp) hs] at h
      obtain ⟨h1, h2⟩ := hp.2 k t v n hs
      have := scn_badc m _ _ _ (by rw [List.length_drop]; omega) c q h
      rw [List.length_drop] at this
      exact ⟨this.1, by omega⟩
    | bad d o =>
      rw [scn_bad (by simp) hs] at h
      cases h
      have := stp_badc (x :: u) (by simp) c o hs
      exact ⟨this.1, by omega⟩

/-- How a token stands in its text, behind byte a. -/
structure OT (l : List UInt8) (a : Nat) (t : Tok) : Prop where
  lo : a ≤ t.p
  hi : t.p < l.length
  kd : t.k ≠ 6
  tx : t.k ≠ 4 → t.t ≠ [] ∧ t.p + t.t.length ≤ l.length ∧ (l.drop t.p).take t.t.length = t.t
  nm : t.k = 1 → letB (rnL t.t) = true ∧ wordB t.t = false
def nxt (t : Tok) : Nat := if t.k = 4 then t.p + 1 else t.p + t.t.length
def GT (l : List UInt8) : Nat → List Tok → Prop
  | _, [] => False
  | a, t :: r => match r with
    | [] => t.k = 6 ∧ t.t = [] ∧ t.p = l.length ∧ a ≤ l.length
    | _ :: _ => OT l a t ∧ GT l (nxt t) r
theorem GT.ne {l : List UInt8} {a : Nat} {r : List Tok} (h : GT l a r) : r ≠ [] := fun e => by subst e; exact h

theorem rnL_take (l : List UInt8) (n : Nat) (h0 : l ≠ []) (h1 : wdL l ≤ n) (hv : ¬ (rnL l = 65533 ∧ wdL l = 1)) : rnL (l.take n) = rnL l := by
  have hle := wdL_le l h0
  have hpos := wdL_pos l
  have := decode_local ⟨l.toArray⟩ ⟨(l.take n).toArray⟩ 0 0 (by unfold okR; exact hv) (by rw [sz_list, List.length_take]; show 0 + wdL l ≤ _; omega) (fun i hi => by
    rw [get_list, get_list]
    simp only [Nat.zero_add]
    have hi' : i < wdL l := hi
    rw [List.getD_eq_getElem?_getD, List.getD_eq_getElem?_getD, List.getElem?_take_of_lt (by omega)])
  exact this.2

theorem stp_tok (l : List UInt8) (hl : l ≠ []) (k : Int) (t : List UInt8) (v : Int) (n : Nat) (h : stp l = .tok k t v n) :
    k ≠ 6 ∧ (k ≠ 4 → t = l.take n) ∧ (k = 1 → letB (rnL t) = true ∧ wordB t = false) ∧ (1 ≤ k ∧ k ≤ 5) := by
  unfold stp at h
  split at h
  · cases h
  · split at h
    · cases h
    · split at h
      · rename_i hlt
        split at h
        · cases h
        · cases h
          refine ⟨by split <;> omega, fun _ => rfl, fun hk => ?_, by split <;> omega⟩
          have hw : wordB (l.take (spn inNm l)) = false := by
            cases hw : wordB (l.take (spn inNm l))
            · rfl
            · rw [hw] at hk; simp at hk
          have hf : inNm (rnL l) = true := by unfold inNm; rw [hlt]; rfl
          refine ⟨?_, hw⟩
          rw [rnL_take l _ hl (by rw [spn_yes inNm l hl hf]; omega) (fun hc => by
            have := hc.1
            rw [this] at hlt
            exact absurd hlt (by decide))]
          exact hlt
      · split at h
        · split at h
          · cases h
          · cases h; exact ⟨by omega, fun _ => rfl, fun hk => absurd hk (by omega), by omega⟩
        · split at h
          · split at h
            · cases h; exact ⟨by omega, fun hk => absurd rfl hk, fun hk => absurd hk (by omega), by omega⟩
            · cases h
          · split at h
            · cases h
            · cases h; exact ⟨by omega, fun _ => rfl, fun hk => absurd hk (by omega), by omega⟩

theorem scn_GT (l : List UInt8) : ∀ (m p : Nat) (acc : List Tok) (ts : List Tok), l.length - p ≤ m → p ≤ l.length → scn (l.drop p) p acc = .ok ts → ∃ body, ts = acc ++ body ∧ ∀ a, a ≤ p → GT l a body
  | m, p, acc, ts, hm, hp, h => by
    by_cases hlt : p < l.length
    · have hne : l.drop p ≠ [] := fun e => by have := congrArg List.length e; simp at this; omega
      have hpos := stp_pos (l.drop p) hne
      rw [List.length_drop] at hpos
      cases m with
      | zero => omega
      | succ m =>
        cases hs : stp (l.drop p) with
        | skip n =>
          rw [scn_skip hne hs, List.drop_drop] at h
          obtain ⟨h1, h2⟩ := hpos.1 n hs
          obtain ⟨body, e1, e2⟩ := scn_GT l m (p + n) acc ts (by omega) (by omega) h
          exact ⟨body, e1, fun a ha => e2 a (by omega)⟩
        | tok k t v n =>
          rw [scn_tok hne hs, List.drop_drop] at h
          obtain ⟨h1, h2⟩ := hpos.2 k t v n hs
          obtain ⟨body, e1, e2⟩ := scn_GT l m (p + n) _ ts (by omega) (by omega) h
          obtain ⟨k1, k2, k3, k4⟩ := stp_tok (l.drop p) hne k t v n hs
          have hot : ∀ a, a ≤ p → OT l a ⟨k, t, v, p⟩ := fun a ha => {
            lo := ha, hi := hlt, kd := k1
            tx := fun hk => by
              have ht := k2 hk
              have hl : t.length = n := by rw [ht, List.length_take, List.length_drop]; omega
              refine ⟨fun e => ?_, ?_, ?_⟩
              · have e' : t = [] := e
                rw [e'] at hl; simp at hl; omega
              · show p + t.length ≤ _; omega
              · show (l.drop p).take t.length = t; rw [hl, ← ht]
            nm := k3 }
          have hnx : nxt ⟨k, t, v, p⟩ ≤ p + n := by
            unfold nxt
            by_cases hk : k = 4
            · rw [if_pos hk]; show p + 1 ≤ _; omega
            · rw [if_neg hk]
              show p + t.length ≤ _
              rw [k2 hk, List.length_take]; omega
          refine ⟨⟨k, t, v, p⟩ :: body, by rw [e1]; simp, fun a ha => ?_⟩
          have hb := e2 (nxt ⟨k, t, v, p⟩) hnx
          cases body with
          | nil => exact absurd rfl hb.ne
          | cons y z => exact ⟨hot a ha, hb⟩
        | bad d o => rw [scn_bad hne hs] at h; cases h
    · have e : l.drop p = [] := List.drop_of_length_le (by omega)
      rw [e, scn_nil] at h
      cases h
      exact ⟨_, rfl, fun a ha => ⟨rfl, rfl, by show p = _; omega, by omega⟩⟩

/-- What Scan tells, in these words. -/
theorem scT_bad (l : List UInt8) (h : (scT l).2.1 ≠ 0) : (scT l).1 = [] ∧ -1 ≤ (scT l).2.2 ∧ (scT l).2.2 < max (l.length : Int) 1 ∧ ((scT l).2.2 = -1 ↔ 20000 < l.length) := by
  unfold scT at h ⊢
  split
  · rename_i hb
    exact ⟨rfl, by simp, by simp only; omega, by simp [hb]⟩
  · rename_i hb
    rw [if_neg hb] at h
    cases hs : scn l 0 [] with
    | ok ts => rw [hs] at h; simp at h
    | bad c q =>
      have := scn_badc _ l 0 [] (Nat.le_refl _) c q hs
      exact ⟨rfl, by simp only; omega, by simp only; omega, by simp only; omega⟩
theorem scT_ok (l : List UInt8) (h : (scT l).2.1 = 0) : GT l 0 (scT l).1 ∧ ¬ 20000 < l.length ∧ (scT l).2.2 = 0 := by
  unfold scT at h ⊢
  split
  · rename_i hb
    rw [if_pos hb] at h; simp at h
  · rename_i hb
    rw [if_neg hb] at h
    cases hs : scn l 0 [] with
    | ok ts =>
      obtain ⟨body, e1, e2⟩ := scn_GT l _ 0 [] ts (Nat.le_refl _) (Nat.zero_le _) hs
      rw [List.nil_append] at e1
      subst e1
      exact ⟨e2 0 (Nat.le_refl _), hb, rfl⟩
    | bad c q =>
      rw [hs] at h
      have := scn_badc _ l 0 [] (Nat.le_refl _) c q hs
      exact absurd h this.1

end Go.Proofs.YtlgkfhipobdcfabGreatDoor

/- A text's beginning is scanned alike, whatever stands behind the blank or newline behind it (no program in it). -/
namespace Go.Proofs.YtlgkfhipobdcfabGreatDoor
open Go.RowKit

theorem dN1 (n b0 c1 c2 c3 : Nat) (h : c1 < 128) : Lib.decodeN n b0 c1 c2 c3 = Lib.decodeN 1 b0 0 0 0 := by
  have h1 : ¬ c1 / 64 = 2 := by omega
  unfold Lib.decodeN
  simp [h1]
theorem dN2 (n b0 b1 c2 c3 : Nat) (hn : 2 ≤ n) (h : c2 < 128) : Lib.decodeN n b0 b1 c2 c3 = Lib.decodeN 2 b0 b1 0 0 := by
  have h1 : ¬ c2 / 64 = 2 := by omega
  have h2 : 1 < n := by omega
  unfold Lib.decodeN
  simp [h1, h2]
theorem dN3 (n b0 b1 b2 c3 : Nat) (hn : 3 ≤ n) (h : c3 < 128) : Lib.decodeN n b0 b1 b2 c3 = Lib.decodeN 3 b0 b1 b2 0 := by
  have h1 : ¬ c3 / 64 = 2 := by omega
  have h2 : 1 < n := by omega
  have h3 : 2 < n := by omega
  unfold Lib.decodeN
  simp [h1, h2, h3]
theorem dN4 (n m b0 b1 b2 b3 : Nat) (hn : 4 ≤ n) (hm : 4 ≤ m) : Lib.decodeN n b0 b1 b2 b3 = Lib.decodeN m b0 b1 b2 b3 := by
  have h1 : 1 < n := by omega
  have h2 : 2 < n := by omega
  have h3 : 3 < n := by omega
  have k1 : 1 < m := by omega
  have k2 : 2 < m := by omega
  have k3 : 3 < m := by omega
  unfold Lib.decodeN
  simp only [h1, h2, h3, k1, k2, k3, true_and]

/-- A rune is decoded alike, whatever stands behind the ASCII byte behind the text. -/
theorem dec_app (l : List UInt8) (hl : l ≠ []) (b : UInt8) (t : List UInt8) (hb : b.toNat < 128) : (rnL (l ++ b :: t), wdL (l ++ b :: t)) = (rnL l, wdL l) := by
  rw [dec_list, dec_list]
  match l, hl with
  | [a], _ =>
    show Lib.decodeN _ a.toNat b.toNat _ _ = Lib.decodeN 1 a.toNat 0 0 0
    exact dN1 _ _ _ _ _ hb
  | [a, c], _ =>
    show Lib.decodeN _ a.toNat c.toNat b.toNat _ = Lib.decodeN 2 a.toNat c.toNat 0 0
    exact dN2 _ _ _ _ _ (by simp) hb
  | [a, c, d], _ =>
    show Lib.decodeN _ a.toNat c.toNat d.toNat b.toNat = Lib.decodeN 3 a.toNat c.toNat d.toNat 0
    exact dN3 _ _ _ _ _ (by simp) hb
  | a :: c :: d :: e :: r, _ =>
    show Lib.decodeN _ a.toNat c.toNat d.toNat e.toNat = Lib.decodeN _ a.toNat c.toNat d.toNat e.toNat
    exact dN4 _ _ _ _ _ _ (by simp) (by simp)
theorem rnL_app (l : List UInt8) (hl : l ≠ []) (b : UInt8) (t : List UInt8) (hb : b.toNat < 128) : rnL (l ++ b :: t) = rnL l := congrArg Prod.fst (dec_app l hl b t hb)
theorem wdL_app (l : List UInt8) (hl : l ≠ []) (b : UInt8) (t : List UInt8) (hb : b.toNat < 128) : wdL (l ++ b :: t) = wdL l := congrArg Prod.snd (dec_app l hl b t hb)

theorem spn_app (f : Nat → Bool) (l : List UInt8) (b : UInt8) (t : List UInt8) (hb : b.toNat < 128) (hf : f b.toNat = false) : spn f (l ++ b :: t) = spn f l := by
  by_cases hl : l = []
  · subst hl
    rw [spn_nil, List.nil_append, spn_no f _ (by simp) (by rw [(asc b t hb).1]; exact hf)]
  · have hne : l ++ b :: t ≠ [] := by simp
    cases h : f (rnL l)
    · rw [spn_no f l hl h, spn_no f _ hne (by rw [rnL_app l hl b t hb]; exact h)]
    · have hw := wdL_le l hl
      have hp := wdL_pos l
      have hlp := List.length_pos_iff.2 hl
      rw [spn_yes f l hl h, spn_yes f _ hne (by rw [rnL_app l hl b t hb]; exact h), wdL_app l hl b t hb, List.drop_append_of_le_length hw, spn_app f (l.drop (wdL l)) b t hb hf]
termination_by l.length
decreasing_by rw [List.length_drop]; omega

/-- A run of bytes of one kind at a list's head, at most m, is alike whatever stands behind a byte of another kind. -/
theorem run_app (f : UInt8 → Bool) (b : UInt8) (t : List UInt8) (hf : f b = false) : ∀ (m : Nat) (u : List UInt8), ((u ++ b :: t).take m).takeWhile f = (u.take m).takeWhile f
  | 0, u => by simp
  | m + 1, [] => by simp [hf]
  | m + 1, c :: u => by
    simp only [List.cons_append, List.take_succ_cons, List.takeWhile_cons]
    rw [run_app f b t hf m u]
theorem run_le (f : UInt8 → Bool) : ∀ (m : Nat) (u : List UInt8), ((u.take m).takeWhile f).length ≤ u.length
  | 0, u => by simp
  | m + 1, [] => by simp
  | m + 1, c :: u => by
    simp only [List.take_succ_cons, List.takeWhile_cons]
    split
    · simp only [List.length_cons]; have := run_le f m u; omega
    · simp

theorem hxs_app (b : UInt8) (t : List UInt8) (hb : b.toNat = 32 ∨ b.toNat = 10 ∨ b.toNat = 41) (m : Nat) (u : List UInt8) : hxs m (u ++ b :: t) = hxs m u :=
  run_app _ b t (by rcases hb with h | h | h <;> rw [h] <;> decide) m u
theorem dgs_app (b : UInt8) (t : List UInt8) (hb : b.toNat = 32 ∨ b.toNat = 10 ∨ b.toNat = 41) (m : Nat) (u : List UInt8) : dgs m (u ++ b :: t) = dgs m u :=
  run_app _ b t (by rcases hb with h | h | h <;> rw [h] <;> decide) m u
theorem headD_app (b : UInt8) (t : List UInt8) (hb : b.toNat = 32 ∨ b.toNat = 10 ∨ b.toNat = 41) (k : UInt8) (hk : 42 ≤ k.toNat) (u : List UInt8) : ((u ++ b :: t).headD 0 = k) ↔ (u.headD 0 = k) := by
  cases u with
  | nil =>
    simp only [List.nil_append, List.headD_cons, List.headD_nil]
    constructor
    · intro e; subst e; omega
    · intro e; subst e; exact absurd hk (by decide)
  | cons a u => simp

theorem escX_app (b : UInt8) (t : List UInt8) (hb : b.toNat = 32 ∨ b.toNat = 10 ∨ b.toNat = 41) (u : List UInt8) : escX (u ++ b :: t) = escX u := by
  unfold escX; rw [hxs_app b t hb]
theorem escD_app (b : UInt8) (t : List UInt8) (hb : b.toNat = 32 ∨ b.toNat = 10 ∨ b.toNat = 41) (u : List UInt8) : escD (u ++ b :: t) = escD u := by
  unfold escD; rw [dgs_app b t hb]

end Go.Proofs.YtlgkfhipobdcfabGreatDoor

/- A text's beginning is scanned alike, whatever stands behind the blank or newline behind it: escapes, strings, signs, steps (no program in it). -/
namespace Go.Proofs.YtlgkfhipobdcfabGreatDoor
open Go.RowKit

theorem spn_nl (l : List UInt8) : spn (fun r => decide (r ≠ 10)) l = (l.takeWhile fun c => decide (c.toNat ≠ 10)).length := by
  match l with
  | [] => rw [spn_nil]; rfl
  | c :: t =>
    by_cases h10 : c.toNat = 10
    · have := asc c t (by omega)
      rw [spn_no _ _ (by simp) (by rw [this.1]; simp [h10])]
      simp [h10]
    · have hr : rnL (c :: t) ≠ 10 := fun e => h10 (by have := rn_lt c t (by omega); omega)
      have hw := wdL_pos (c :: t)
      have hl := wdL_le (c :: t) (by simp)
      rw [spn_yes _ _ (by simp) (by simpa using hr)]
      have hall : ∀ x ∈ (c :: t).take (wdL (c :: t)), (decide (x.toNat ≠ 10)) = true := fun x hx => by
        rcases Nat.lt_or_ge c.toNat 128 with h1 | h1
        · have h2 := (asc c t h1).2
          rw [h2] at hx
          simp at hx; subst hx; simpa using h10
        · have := hi_bytes c t h1 x hx
          simp; omega
      have hsp : c :: t = (c :: t).take (wdL (c :: t)) ++ (c :: t).drop (wdL (c :: t)) := (List.take_append_drop _ _).symm
      have ih := spn_nl ((c :: t).drop (wdL (c :: t)))
      rw [ih]
      conv => rhs; rw [hsp]
      rw [List.takeWhile_append_of_pos hall, List.length_append, List.length_take]
      omega
termination_by l.length
decreasing_by simp only [List.length_drop, List.length_cons] at *; omega

theorem escU_app (b : UInt8) (t : List UInt8) (hb : b.toNat = 32 ∨ b.toNat = 10 ∨ b.toNat = 41) (u : List UInt8) : escU (u ++ b :: t) = escU u := by
  have h0 := headD_app b t hb 123 (by decide) u
  by_cases hu : u.headD 0 = 123
  · obtain ⟨a, u', rfl⟩ : ∃ a u', u = a :: u' := by
      cases u with
      | nil => exact absurd hu (by decide)
      | cons a u' => exact ⟨a, u', rfl⟩
    have e1 : ((a :: u') ++ b :: t).drop 1 = u' ++ b :: t := rfl
    have e2 : (a :: u').drop 1 = u' := rfl
    have hle : (hxs 8 u').length ≤ u'.length := run_le _ 8 u'
    have e3 : ((a :: u') ++ b :: t).drop (1 + (hxs 8 u').length) = (a :: u').drop (1 + (hxs 8 u').length) ++ b :: t := List.drop_append_of_le_length (by simp; omega)
    have h3 := headD_app b t hb 125 (by decide) ((a :: u').drop (1 + (hxs 8 u').length))
    unfold escU
    rw [e1, e2, hxs_app b t hb, e3]
    simp only [h0, h3]
  · unfold escU
    rw [if_neg (fun h => hu (h0.1 h.1)), if_neg (fun h => hu h.1)]
theorem esc_app (b : UInt8) (t : List UInt8) (hb : b.toNat = 32 ∨ b.toNat = 10 ∨ b.toNat = 41) (u : List UInt8) (hu : u ≠ []) : esc (u ++ b :: t) = esc u := by
  match u, hu with
  | c :: u, _ =>
    show esc (c :: (u ++ b :: t)) = _
    simp only [esc]
    rw [escX_app b t hb, escU_app b t hb]
    have := escD_app b t hb (c :: u)
    simp only [List.cons_append] at this
    rw [this]
theorem esc_len (u : List UInt8) : (esc u).2 ≤ u.length ∨ (esc u).2 = 0 := by
  by_cases h : (esc u).2 = 0
  · exact .inr h
  · exact .inl (esc_take u).1

theorem qt_app (q b : UInt8) (t : List UInt8) (hb : b.toNat = 32 ∨ b.toNat = 10 ∨ b.toNat = 41) (l : List UInt8) (i : Nat) (acc v : List UInt8) (n : Nat) (h : qt q l i acc = .ok v n) : qt q (l ++ b :: t) i acc = .ok v n := by
  match l with
  | [] => rw [qt_nil] at h; cases h
  | c :: u =>
    rw [qt] at h
    show qt q (c :: (u ++ b :: t)) i acc = _
    rw [qt]
    split at h
    · cases h
    · rename_i h10
      rw [if_neg h10]
      split at h
      · rename_i hq; rw [if_pos hq]; exact h
      · rename_i hq
        rw [if_neg hq]
        split at h
        · rename_i h92
          rw [if_pos h92]
          split at h
          · cases h
          · rename_i hu
            rw [if_neg (by simp), esc_app b t hb u hu]
            split at h
            · cases h
            · rename_i h0
              rw [if_neg h0]
              have hle : (esc u).2 ≤ u.length := by rcases esc_len u with h | h; exact h; exact absurd h h0
              rw [List.drop_append_of_le_length hle]
              exact qt_app q b t hb (u.drop (esc u).2) _ _ v n h
        · rename_i h92
          rw [if_neg h92]
          exact qt_app q b t hb u _ _ v n h
termination_by l.length
decreasing_by all_goals (simp; try omega)

theorem sgz_app (b : UInt8) (t : List UInt8) (hb : b.toNat = 32 ∨ b.toNat = 10 ∨ b.toNat = 41) (l : List UInt8) (hl : l ≠ []) : sgz (l ++ b :: t) = sgz l := by
  have hb' : b = 32 ∨ b = 10 ∨ b = 41 := hb.imp (fun h => UInt8.toNat_inj.1 h) (fun h => h.imp (fun h => UInt8.toNat_inj.1 h) (fun h => UInt8.toNat_inj.1 h))
  match l, hl with
  | [c], _ =>
    have h1 : sgz (c :: b :: t) = if sgn1.contains c then 1 else 0 := by
      show (if sgn2.contains [c, b] then 2 else if sgn1.contains c then 1 else 0) = _
      rw [if_neg]
      rcases hb' with rfl | rfl | rfl <;> simp [sgn2]
    have h2 : sgz [c] = if sgn1.contains c then 1 else 0 := by
      show (if sgn2.contains [c] then 2 else if sgn1.contains c then 1 else 0) = _
      rw [if_neg]
      simp [sgn2]
    exact h1.trans h2.symm
  | c :: d :: u, _ => rfl
theorem pre_app (b : UInt8) (t : List UInt8) (hb : b.toNat = 32 ∨ b.toNat = 10 ∨ b.toNat = 41) (l : List UInt8) (hl : l ≠ []) : Lib.hasPrefix (l ++ b :: t) [45, 45] = Lib.hasPrefix l [45, 45] := by
  have hb' : b = 32 ∨ b = 10 ∨ b = 41 := hb.imp (fun h => UInt8.toNat_inj.1 h) (fun h => h.imp (fun h => UInt8.toNat_inj.1 h) (fun h => UInt8.toNat_inj.1 h))
  match l, hl with
  | [c], _ => rcases hb' with rfl | rfl | rfl <;> simp [Lib.hasPrefix, List.isPrefixOf]
  | c :: d :: u, _ => simp [Lib.hasPrefix, List.isPrefixOf]

theorem nl_app (b : UInt8) (t : List UInt8) : ∀ (l : List UInt8), ((∃ x ∈ l, x.toNat = 10) ∨ b.toNat = 10) → ((l ++ b :: t).takeWhile fun c => decide (c.toNat ≠ 10)).length = (l.takeWhile fun c => decide (c.toNat ≠ 10)).length
  | [], h => by
    rcases h with ⟨x, hx, _⟩ | h
    · cases hx
    · simp [h]
  | c :: l, h => by
    by_cases hc : c.toNat = 10
    · simp [hc]
    · have h' : (∃ x ∈ l, x.toNat = 10) ∨ b.toNat = 10 := by
        rcases h with ⟨x, hx, h10⟩ | h
        · rcases List.mem_cons.1 hx with rfl | h
          · exact absurd h10 hc
          · exact .inl ⟨x, h, h10⟩
        · exact .inr h
      have ih := nl_app b t l h'
      simp only [List.cons_append, List.takeWhile_cons]
      simp only [ne_eq, hc, not_false_eq_true, decide_true, if_true, List.length_cons]
      exact congrArg (· + 1) ih

theorem inNm_blank (b : UInt8) (hb : b.toNat = 32 ∨ b.toNat = 10 ∨ b.toNat = 41) : inNm b.toNat = false := by
  rcases hb with h | h | h <;> rw [h] <;> decide

/-- One step is alike. -/
theorem stp_app (b : UInt8) (t : List UInt8) (hb : b.toNat = 32 ∨ b.toNat = 10 ∨ b.toNat = 41) (l : List UInt8) (hl : l ≠ []) (hc : Lib.hasPrefix l [45, 45] = true → (∃ x ∈ l, x.toNat = 10) ∨ b.toNat = 10) (hg : ∀ c o, stp l ≠ .bad c o) : stp (l ++ b :: t) = stp l := by
  have hb1 : b.toNat < 128 := by omega
  have hsp := spn_app inNm l b t hb1 (inNm_blank b hb)
  have htk : (l ++ b :: t).take (spn inNm l) = l.take (spn inNm l) := List.take_append_of_le_length (spn_le _ _)
  have hstk : (l ++ b :: t).take (sgz l) = l.take (sgz l) := List.take_append_of_le_length (sgz_le l).2
  have hhd : (l ++ b :: t).headD 0 = l.headD 0 := by
    cases l with
    | nil => exact absurd rfl hl
    | cons a u => rfl
  have hdr : (l ++ b :: t).drop 1 = l.drop 1 ++ b :: t := List.drop_append_of_le_length (List.length_pos_iff.2 hl)
  have hrn := rnL_app l hl b t hb1
  have hpre := pre_app b t hb l hl
  have hsg := sgz_app b t hb l hl
  by_cases hblk : rnL l = 32 ∨ rnL l = 9 ∨ rnL l = 10 ∨ rnL l = 13
  · rw [stp_blank l _ rfl hblk, stp_blank _ _ hrn hblk]
  · cases hp : Lib.hasPrefix l [45, 45]
    · rw [hp] at hpre
      cases hle : letB (rnL l)
      · cases hdi : digB (rnL l)
        · by_cases hq : rnL l = 39 ∨ rnL l = 34
          · have e1 := stp_quote l _ rfl hblk hp hle hdi hq
            have e2 := stp_quote _ _ hrn hblk hpre hle hdi hq
            rw [hhd, hdr] at e2
            cases hqt : qt (l.headD 0) (l.drop 1) 1 [] with
            | ok v n =>
              rw [qt_app _ b t hb _ _ _ v n hqt] at e2
              rw [hqt] at e1
              rw [e1, e2]
            | bad c o =>
              rw [hqt] at e1
              exact absurd e1 (hg c o)
          · rw [stp_sign l _ rfl hblk hp hle hdi hq, stp_sign _ _ hrn hblk hpre hle hdi hq, hsg, hstk]
        · rw [stp_number l _ rfl hblk hp hle hdi, stp_number _ _ hrn hblk hpre hle hdi, hsp, htk]
      · rw [stp_name l _ rfl hblk hp hle, stp_name _ _ hrn hblk hpre hle, hsp, htk]
    · rw [hp] at hpre
      rw [stp_comment l _ rfl hblk hp, stp_comment _ _ hrn hblk hpre, spn_nl, spn_nl, nl_app b t l (hc hp)]

end Go.Proofs.YtlgkfhipobdcfabGreatDoor

/- Two texts with a gap between are scanned as each by itself (no program in it). -/
namespace Go.Proofs.YtlgkfhipobdcfabGreatDoor
open Go.RowKit

/-- No comment is open at the end. -/
def NC (b : UInt8) (l : List UInt8) : Prop := ∀ p, Lib.hasPrefix (l.drop p) [45, 45] = true → (∃ x ∈ l.drop p, x.toNat = 10) ∨ b.toNat = 10
theorem NC.drop {b : UInt8} {l : List UInt8} (h : NC b l) (n : Nat) : NC b (l.drop n) := fun p hp => by
  rw [List.drop_drop] at hp ⊢; exact h _ hp

theorem scn_app (b : UInt8) (t : List UInt8) (hb : b.toNat = 32 ∨ b.toNat = 10 ∨ b.toNat = 41) : ∀ (m : Nat) (l : List UInt8) (p : Nat) (acc ts : List Tok), l.length ≤ m → NC b l → scn l p acc = .ok ts →
    ∃ body, ts = acc ++ body ++ [⟨6, [], 0, p + l.length⟩] ∧ scn (l ++ b :: t) p acc = scn (b :: t) (p + l.length) (acc ++ body)
  | m, [], p, acc, ts, _, _, h => by
    rw [scn_nil] at h
    cases h
    exact ⟨[], by simp, by simp⟩
  | 0, c :: u, p, acc, ts, hm, _, _ => by simp at hm
  | m + 1, c :: u, p, acc, ts, hm, hN, h => by
    have hne : c :: u ≠ [] := by simp
    have hne' : c :: u ++ b :: t ≠ [] := by simp
    have hpos := stp_pos (c :: u) hne
    have hap := stp_app b t hb (c :: u) hne (fun hp => hN 0 hp)
    cases hs : stp (c :: u) with
    | skip n =>
      obtain ⟨h1, h2⟩ := hpos.1 n hs
      rw [scn_skip hne hs] at h
      have hs' := (hap (fun _ _ e => by rw [hs] at e; cases e)).trans hs
      obtain ⟨body, e1, e2⟩ := scn_app b t hb m ((c :: u).drop n) (p + n) acc ts (by rw [List.length_drop]; omega) (hN.drop n) h
      have el : p + n + ((c :: u).drop n).length = p + (c :: u).length := by rw [List.length_drop]; omega
      rw [el] at e1 e2
      exact ⟨body, e1, by rw [scn_skip hne' hs', List.drop_append_of_le_length h2]; exact e2⟩
    | tok k x v n =>
      obtain ⟨h1, h2⟩ := hpos.2 k x v n hs
      rw [scn_tok hne hs] at h
      have hs' := (hap (fun _ _ e => by rw [hs] at e; cases e)).trans hs
      obtain ⟨body, e1, e2⟩ := scn_app b t hb m ((c :: u).drop n) (p + n) (acc ++ [⟨k, x, v, p⟩]) ts (by rw [List.length_drop]; omega) (hN.drop n) h
      have el : p + n + ((c :: u).drop n).length = p + (c :: u).length := by rw [List.length_drop]; omega
      rw [el] at e1 e2
      refine ⟨⟨k, x, v, p⟩ :: body, by rw [e1]; simp, ?_⟩
      rw [scn_tok hne' hs', List.drop_append_of_le_length h2, e2]; simp
    | bad cc o =>
      rw [scn_bad hne hs] at h
      cases h

/-- A token further on. -/
def sh (d : Nat) (t : Tok) : Tok := ⟨t.k, t.t, t.v, t.p + d⟩
theorem scn_shift (d : Nat) (A : List Tok) : ∀ (m : Nat) (l : List UInt8) (p : Nat) (acc : List Tok), l.length ≤ m →
    scn l (p + d) (A ++ acc.map (sh d)) = match scn l p acc with | .ok ts => .ok (A ++ ts.map (sh d)) | .bad c q => .bad c (q + d)
  | m, [], p, acc, _ => by rw [scn_nil, scn_nil]; simp [sh]
  | 0, c :: u, p, acc, hm => by simp at hm
  | m + 1, c :: u, p, acc, hm => by
    have hne : c :: u ≠ [] := by simp
    have hpos := stp_pos (c :: u) hne
    cases hs : stp (c :: u) with
    | skip n =>
      obtain ⟨h1, h2⟩ := hpos.1 n hs
      rw [scn_skip hne hs, scn_skip hne hs]
      have ih := scn_shift d A m ((c :: u).drop n) (p + n) acc (by rw [List.length_drop]; omega)
      rw [show p + d + n = p + n + d by omega]
      exact ih
    | tok k x v n =>
      obtain ⟨h1, h2⟩ := hpos.2 k x v n hs
      rw [scn_tok hne hs, scn_tok hne hs]
      have ih := scn_shift d A m ((c :: u).drop n) (p + n) (acc ++ [⟨k, x, v, p⟩]) (by rw [List.length_drop]; omega)
      rw [show p + d + n = p + n + d by omega]
      rw [← ih]
      simp [sh]
    | bad cc o =>
      rw [scn_bad hne hs, scn_bad hne hs]
      simp only
      rw [show p + d + o = p + o + d by omega]

theorem gap_blank (c : UInt8) (l : List UInt8) (p : Nat) (acc : List Tok) (h : c.toNat = 32 ∨ c.toNat = 9 ∨ c.toNat = 10 ∨ c.toNat = 13) : scn (c :: l) p acc = scn l (p + 1) acc := by
  rw [scn_skip (by simp) (stp_blank _ c.toNat (asc c l (by omega)).1 h)]; rfl
theorem NC.nl (l : List UInt8) : NC 10 l := fun _ _ => .inr rfl
end Go.Proofs.YtlgkfhipobdcfabGreatDoor

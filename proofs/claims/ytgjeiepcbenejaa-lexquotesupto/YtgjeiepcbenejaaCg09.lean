/- The walk of Scan: a refusal is caught at the face. -/
import Derived.Test.YtgjeiepcbenejaaCg08
import Derived.Defers
import Derived.Recover
import Derived.Laws.StructEq
namespace Go.Proofs.Ytgjeiepcbenejaa
open Go.RowKit

theorem ta_yes (v : Value) (w : World) : (Instr.typeAssert (.iface 44 v) 20 44 true).run Try.prog w = .ok (.tuple #[v, .bool true]) w := by
  have hu := Try.underlying44
  unfold Instr.typeAssert
  simp_all [run_underlying hu, go_sem, Result.andThen]
theorem ta_nil (w : World) : (Instr.typeAssert .nilIface 20 44 true).run Try.prog w = .ok (.tuple #[.agg #[.int .i64 0, .int .i64 0], .bool false]) w := by
  have hu := Try.underlying44
  have hz : ∀ w, (zeroValue 44).run Try.prog w = .ok (.agg #[.int .i64 0, .int .i64 0]) w := fun w => by kernel_rfl
  unfold Instr.typeAssert
  simp_all [run_underlying hu, go_sem, Result.andThen]

set_option maxHeartbeats 1000000 in
theorem catch_idle (a : Nat) (w : World) :
    CallsD Try.prog 20 #[.pointer (some ⟨a, 0, none⟩), .pointer (some ⟨a + 1, 0, none⟩)] .returning w fun e u' w' => e = .returned (.tuple #[]) ∧ u' = .returning ∧ Below w.heap.size w w' := by
  have hta := ta_nil
  refine callsD_of_wpS Try.func20 rfl fun c₀ cs hu => ?_
  apply wpS_seq
  apply wpS_region
  simp [wpOpsS, go_sem, recoverD, hu, Try.ntmps20, Exit.thenS, hta]
  refine wpS_of_wp ?_
  change Code.wp Try.prog _ _ ⟨#[.pointer (some ⟨a, 0, none⟩), .pointer (some ⟨a + 1, 0, none⟩), .pointer (some ⟨w.heap.size, 0, none⟩), .bool false, .tuple #[.agg #[.int .i64 0, .int .i64 0], .bool false], .nilIface, .tuple #[.agg #[.int .i64 0, .int .i64 0], .bool false], .agg #[.int .i64 0, .int .i64 0], .bool false, undef, undef], []⟩ _
  go_wp2
  refine ⟨rfl, .returning, by cases c₀; simp_all, .tuple #[], by simp [results, Try.results20, go_sem], rfl, rfl, (Below.refl _ _).alloc (Nat.le_refl _) _⟩

theorem arr11 (p0 p1 v2 v3 v4 v5 v6 v7 v8 : Value) : #[p0, p1] ++ (((((((Array.replicate 9 undef).setIfInBounds 3 v5).setIfInBounds 4 v6).setIfInBounds 2 v4).setIfInBounds 5 v7).setIfInBounds 6 v8).setIfInBounds 0 v2).setIfInBounds 1 v3 = #[p0, p1, v2, v3, v4, v5, v6, v7, v8, undef, undef] := by kernel_rfl

set_option maxHeartbeats 1000000 in
theorem catch_panicking (a : Nat) (c x : Int) (older : List PanicEntry) (w : World) (u0 u1 u2 : Value) (h0 : w.cell? ⟨a, 0, none⟩ = some u0) (f0 : w.frozen? ⟨a, 0, none⟩ = false) (h1 : w.cell? ⟨a + 1, 0, none⟩ = some u1) (f1 : w.frozen? ⟨a + 1, 0, none⟩ = false) (h2 : w.cell? ⟨a + 1, 1, none⟩ = some u2) (f2 : w.frozen? ⟨a + 1, 1, none⟩ = false) (hlt : a + 1 < w.heap.size) :
    CallsD Try.prog 20 #[.pointer (some ⟨a, 0, none⟩), .pointer (some ⟨a + 1, 0, none⟩)] (.panicking ({ v := .iface 44 (.agg #[.int .i64 c, .int .i64 x]), recovered := false } :: older)) w fun e u' w' =>
      e = .returned (.tuple #[]) ∧ u' = .panicking ({ v := .iface 44 (.agg #[.int .i64 c, .int .i64 x]), recovered := true } :: older) ∧ w'.cell? ⟨a, 0, none⟩ = some (.slice none 0 0) ∧ w'.cell? ⟨a + 1, 0, none⟩ = some (.int .i64 c) ∧ w'.cell? ⟨a + 1, 1, none⟩ = some (.int .i64 x) ∧ Below a w w' := by
  have hta := ta_yes
  have g0 := alloc_cell (W := w) (b := a) (by omega) h0 (.cells #[.int .i64 c, .int .i64 x] 44)
  have g1 := alloc_cell (W := w) (b := a + 1) hlt h1 (.cells #[.int .i64 c, .int .i64 x] 44)
  have g2 := alloc_cell (W := w) (b := a + 1) hlt h2 (.cells #[.int .i64 c, .int .i64 x] 44)
  have k0 := alloc_frozen (W := w) (b := a) (by omega) f0 (.cells #[.int .i64 c, .int .i64 x] 44)
  have k1 := alloc_frozen (W := w) (b := a + 1) hlt f1 (.cells #[.int .i64 c, .int .i64 x] 44)
  have k2 := alloc_frozen (W := w) (b := a + 1) hlt f2 (.cells #[.int .i64 c, .int .i64 x] 44)
  refine callsD_of_wpS Try.func20 rfl fun c₀ cs hu => ?_
  apply wpS_seq
  apply wpS_region
  simp [wpOpsS, go_sem, recoverD, hu, Try.ntmps20, Exit.thenS, hta]
  refine wpS_of_wp ?_
  rw [arr11]
  go_wp2
  go_region
  all_goals
    refine ⟨rfl, .panicking ({ v := .iface 44 (.agg #[.int .i64 c, .int .i64 x]), recovered := true } :: older), by cases c₀; simp_all, .tuple #[], by simp [results, Try.results20, go_sem], rfl, rfl, ?_⟩
    refine ⟨by simp [go_sem, g0], by simp [go_sem, g1], by simp [go_sem, g2], ?_⟩
    exact (((((Below.refl a w).alloc (by omega) _).setCell (Nat.le_refl _) _).setCell (Nat.le_succ _) _).setCell (Nat.le_succ _) _).drew

/-- What Scan tells: tokens, a fault's number, its place. -/
def scT (l : List UInt8) : List Tok × Int × Int :=
  if 20000 < l.length then ([], 14, -1) else match scn l 0 [] with | .ok ts => (ts, 0, 0) | .bad c p => ([], c, p)

theorem own_base' {w : World} {base b' : Nat} {e : TypeId} {size : Nat} {v : Value} {n : Nat} {xs : List Value} (h : w.ownsRow base e size v n xs) (hb : b' ≤ base) : w.ownsRow b' e size v n xs := own_base h hb

set_option maxHeartbeats 2000000 in
theorem Scan_big (s : ByteArray) (w : World) (hb : 20000 < s.size) (hs : s.size ≤ 9223372036854775807) :
    Calls Try.prog 9 #[.string s] w fun e W' => e = .returned (.tuple #[.slice none 0 0, .agg #[.int .i64 14, .int .i64 (-1)]]) ∧ Below w.heap.size w W' := by
  have hmf : ∀ (fn : Fn) (first cap : Array Value) (w : World), (Instr.makeFunc fn first cap).run Try.prog w = .ok (.func fn first cap) w := fun _ _ _ _ => rfl
  go_enter_defers Try.func9, Try.ntmps9
  go_wp2
  simp [bodyPostD, Leaves, results, Try.results9, go_sem]
  exact ((Below.refl _ w).alloc (Nat.le_refl _) _).alloc (by simp) _

set_option maxHeartbeats 2000000 in
theorem Scan_small (s : ByteArray) (w : World) (hs : s.size ≤ 20000) (R : Res) (hR : scn (LD s 0) 0 [] = R) :
    Calls Try.prog 9 #[.string s] w fun e W' => ∃ v ts c p, e = .returned (.tuple #[v, .agg #[.int .i64 c, .int .i64 p]]) ∧ (ts, c, p) = (match R with | .ok ts => (ts, 0, 0) | .bad c p => ([], c, (p : Int))) ∧ W'.ownsRow w.heap.size 36 4 v ts.length (cellsT ts) ∧ Below w.heap.size w W' := by
  have hmf : ∀ (fn : Fn) (first cap : Array Value) (w : World), (Instr.makeFunc fn first cap).run Try.prog w = .ok (.func fn first cap) w := fun _ _ _ _ => rfl
  obtain ⟨V, hV⟩ : ∃ V, ((w.alloc (.cells #[.slice none 0 0] 22)).alloc (.cells #[.int .i64 0, .int .i64 0] 25)).alloc (.cells #[.string s, .slice none 0 0] 47) = V := ⟨_, rfl⟩
  have hVs : V.heap.size = w.heap.size + 3 := by rw [← hV]; simp
  have CS := scan_any (w.heap.size + 2) s V (by rw [← hV]; simp [go_sem]) (by rw [← hV]; simp [go_sem]) (by rw [← hV]; simp [go_sem]) (by omega) hs
  rw [hR] at CS
  have hBV : Below w.heap.size w V := by rw [← hV]; exact (((Below.refl _ w).alloc (Nat.le_refl _) _).alloc (by simp) _).alloc (by simp; omega) _
  have c0 : V.cell? ⟨w.heap.size, 0, none⟩ = some (.slice none 0 0) := by rw [← hV]; simp [go_sem]
  have c1 : V.cell? ⟨w.heap.size + 1, 0, none⟩ = some (.int .i64 0) := by rw [← hV]; simp [go_sem]
  have c2 : V.cell? ⟨w.heap.size + 1, 1, none⟩ = some (.int .i64 0) := by rw [← hV]; simp [go_sem]
  have d0 : V.frozen? ⟨w.heap.size, 0, none⟩ = false := by rw [← hV]; simp [go_sem]
  have d1 : V.frozen? ⟨w.heap.size + 1, 0, none⟩ = false := by rw [← hV]; simp [go_sem]
  have d2 : V.frozen? ⟨w.heap.size + 1, 1, none⟩ = false := by rw [← hV]; simp [go_sem]
  have HV : Hid (((w.alloc (.cells #[.slice none 0 0] 22)).alloc (.cells #[.int .i64 0, .int .i64 0] 25)).alloc (.cells #[.string s, .slice none 0 0] 47) = V) := hV
  cases R with
  | ok ts =>
    rw [← hV] at CS
    clear hV hR
    go_enter_defers Try.func9, Try.ntmps9
    go_wp2_with (go_at_call 21; refine CS.mono ?_; rintro e w1 ⟨rfl, h1, h2⟩; rw [HV.out] at h1 h2; obtain ⟨v, hv, hown⟩ := h1.tok; obtain ⟨av, cv, rfl⟩ := slice_shape hown; have q0 : w1.cell? ⟨w.heap.size, 0, none⟩ = some (.slice none 0 0) := (World.cell?_of_block (h2.block w.heap.size (by omega) (by omega))).trans c0; have q1 : w1.cell? ⟨w.heap.size + 1, 0, none⟩ = some (.int .i64 0) := (World.cell?_of_block (h2.block (w.heap.size + 1) (by omega) (by omega))).trans c1; have q2 : w1.cell? ⟨w.heap.size + 1, 1, none⟩ = some (.int .i64 0) := (World.cell?_of_block (h2.block (w.heap.size + 1) (by omega) (by omega))).trans c2; have r0 : w1.frozen? ⟨w.heap.size, 0, none⟩ = false := (World.frozen?_of_block (h2.block w.heap.size (by omega) (by omega))).trans d0; have r1 : w1.frozen? ⟨w.heap.size + 1, 0, none⟩ = false := (World.frozen?_of_block (h2.block (w.heap.size + 1) (by omega) (by omega))).trans d1; have r2 : w1.frozen? ⟨w.heap.size + 1, 1, none⟩ = false := (World.frozen?_of_block (h2.block (w.heap.size + 1) (by omega) (by omega))).trans d2)
    have hsz := h2.size
    obtain ⟨W3, hW3⟩ : ∃ W3, ((w1.setCell ⟨w.heap.size, 0, none⟩ (.slice av ts.length cv)).setCell ⟨w.heap.size + 1, 0, none⟩ (.int .i64 0)).setCell ⟨w.heap.size + 1, 1, none⟩ (.int .i64 0) = W3 := ⟨_, rfl⟩
    have hsz3 : W3.heap.size = w1.heap.size := by rw [← hW3]; simp
    have hown3 : W3.ownsRow (V.heap.size + 1) 36 4 (.slice av ts.length cv) ts.length (cellsT ts) := by
      rw [← hW3]
      exact ownsRow_setCell_below (ownsRow_setCell_below (ownsRow_setCell_below hown (by show w.heap.size < _; omega) _) (by show w.heap.size + 1 < _; omega) _) (by show w.heap.size + 1 < _; omega) _
    have hB3 : Below w.heap.size w W3 := by
      rw [← hW3]
      exact (((hBV.trans ((h2.below (by omega)).mono (by omega))).setCell (Nat.le_refl _) _).setCell (Nat.le_succ _) _).setCell (Nat.le_succ _) _
    have y0 : W3.cell? ⟨w.heap.size, 0, none⟩ = some (.slice av ts.length cv) := by rw [← hW3]; simp [go_sem, q0]
    have y1 : W3.cell? ⟨w.heap.size + 1, 0, none⟩ = some (.int .i64 0) := by rw [← hW3]; simp [go_sem, q1]
    have y2 : W3.cell? ⟨w.heap.size + 1, 1, none⟩ = some (.int .i64 0) := by rw [← hW3]; simp [go_sem, q2]
    rw [hW3]
    refine leaves_cons (f := 20) (args := #[.pointer (some ⟨w.heap.size, 0, none⟩), .pointer (some ⟨w.heap.size + 1, 0, none⟩)]) (by simp) (by simp [go_sem]) ?_
    refine (catch_idle w.heap.size W3).mono ?_
    rintro e u' w2 ⟨rfl, rfl, hB⟩
    have z0 := (hB.cell (p := ⟨w.heap.size, 0, none⟩) (by show w.heap.size < _; omega)).trans y0
    have z1 := (hB.cell (p := ⟨w.heap.size + 1, 0, none⟩) (by show w.heap.size + 1 < _; omega)).trans y1
    have z2 := (hB.cell (p := ⟨w.heap.size + 1, 1, none⟩) (by show w.heap.size + 1 < _; omega)).trans y2
    refine ⟨.tuple #[.slice av ts.length cv, .agg #[.int .i64 0, .int .i64 0]], by simp [results, Try.results9, go_sem, z0, z1, z2], ?_⟩
    exact ⟨_, ts, 0, 0, rfl, rfl, own_base (own_below hown3 hB) (by omega), hB3.trans (hB.mono (by omega))⟩
  | bad c p =>
    rw [← hV] at CS
    clear hV hR
    go_enter_defers Try.func9, Try.ntmps9
    go_wp2_with (go_at_call 21; refine CS.mono ?_; rintro e w1 ⟨he, h2⟩; unfold refu at he; subst he)
    rw [HV.out] at h2
    have hb2 : ∀ k, k < w.heap.size + 2 → w1.heap[k]? = V.heap[k]? := fun k hk => h2.block k (by omega) (by omega)
    have hsz := h2.size
    refine leaves_cons (f := 20) (args := #[.pointer (some ⟨w.heap.size, 0, none⟩), .pointer (some ⟨w.heap.size + 1, 0, none⟩)]) (by simp) (by simp [go_sem]) ?_
    refine (catch_panicking w.heap.size c p [] w1 _ _ _ ((World.cell?_of_block (hb2 w.heap.size (by omega))).trans c0) ((World.frozen?_of_block (hb2 w.heap.size (by omega))).trans d0) ((World.cell?_of_block (hb2 (w.heap.size + 1) (by omega))).trans c1) ((World.frozen?_of_block (hb2 (w.heap.size + 1) (by omega))).trans d1) ((World.cell?_of_block (hb2 (w.heap.size + 1) (by omega))).trans c2) ((World.frozen?_of_block (hb2 (w.heap.size + 1) (by omega))).trans d2) (by omega)).mono ?_
    rintro e u' w2 ⟨rfl, rfl, k0, k1, k2, hB⟩
    simp [Leaves, settle, results, Try.results9, go_sem, k0, k1, k2]
    exact ⟨_, [], c, p, ⟨rfl, rfl, rfl⟩, ⟨rfl, rfl, rfl⟩, World.ownsRow_nil _ _ _ _, (hBV.trans ((h2.below (by omega)).mono (by omega))).trans hB⟩

theorem scT_len (s : ByteArray) : s.data.toList.length = s.size := Array.length_toList

/-- Scan, whole. -/
theorem Scan_any (s : ByteArray) (w : World) (hs : s.size ≤ 9223372036854775807) :
    Calls Try.prog 9 #[.string s] w fun e W' => ∃ v, e = .returned (.tuple #[v, .agg #[.int .i64 (scT s.data.toList).2.1, .int .i64 (scT s.data.toList).2.2]]) ∧ W'.ownsRow w.heap.size 36 4 v (scT s.data.toList).1.length (cellsT (scT s.data.toList).1) ∧ Below w.heap.size w W' := by
  by_cases hb : 20000 < s.size
  · refine (Scan_big s w hb hs).mono fun e W' ⟨he, hB⟩ => ?_
    have : scT s.data.toList = ([], 14, -1) := by unfold scT; rw [scT_len, if_pos hb]
    rw [this]
    exact ⟨_, he, World.ownsRow_nil _ _ _ _, hB⟩
  · refine (Scan_small s w (by omega) _ rfl).mono fun e W' ⟨v, ts, c, p, he, h1, h2, hB⟩ => ?_
    have : scT s.data.toList = (ts, c, p) := by
      unfold scT
      rw [scT_len, if_neg hb, h1]
      rfl
    rw [this]
    exact ⟨v, he, h2, hB⟩

end Go.Proofs.Ytgjeiepcbenejaa

/- The scanner by steps that the kernel can count (no program in it), and the document's first example. -/
namespace Go.Proofs.Ytgjeiepcbenejaa
open Go.RowKit

def spnF : Nat → (Nat → Bool) → List UInt8 → Nat
  | 0, _, _ => 0
  | _ + 1, _, [] => 0
  | n + 1, f, c :: t => if f (rnL (c :: t)) then wdL (c :: t) + spnF n f (t.drop (wdL (c :: t) - 1)) else 0
theorem spnF_eq (f : Nat → Bool) : ∀ (n : Nat) (l : List UInt8), l.length ≤ n → spnF n f l = spn f l
  | 0, l, h => by
    have : l = [] := List.eq_nil_of_length_eq_zero (by omega)
    subst this; rw [spn_nil]; rfl
  | n + 1, [], _ => by rw [spn_nil]; rfl
  | n + 1, c :: t, h => by
    rw [spn, spnF]
    split
    · rw [spnF_eq f n _ (by rw [List.length_drop]; simp at h; omega)]
    · rfl

def qtF : Nat → UInt8 → List UInt8 → Nat → List UInt8 → QR
  | 0, _, _, _, _ => .bad 4 0
  | _ + 1, _, [], _, _ => .bad 4 0
  | n + 1, q, c :: t, i, acc =>
    if c.toNat = 10 then .bad 4 0
    else if c = q then (if 10000 < acc.length then .bad 14 0 else .ok acc (i + 1))
    else if c.toNat = 92 then
      if t = [] then .bad 4 0
      else if (esc t).2 = 0 then .bad 4 i
      else qtF n q (t.drop (esc t).2) (i + 1 + (esc t).2) (acc ++ (esc t).1)
    else qtF n q t (i + 1) (acc ++ [c])
theorem qtF_eq (q : UInt8) : ∀ (n : Nat) (l : List UInt8) (i : Nat) (acc : List UInt8), l.length ≤ n → qtF n q l i acc = qt q l i acc
  | 0, l, i, acc, h => by
    have : l = [] := List.eq_nil_of_length_eq_zero (by omega)
    subst this; rw [qt_nil]; rfl
  | n + 1, [], i, acc, _ => by rw [qt_nil]; rfl
  | n + 1, c :: t, i, acc, h => by
    simp only [List.length_cons] at h
    rw [qt, qtF]
    rw [qtF_eq q n _ _ _ (show (t.drop (esc t).2).length ≤ n by rw [List.length_drop]; omega), qtF_eq q n t _ _ (by omega)]

def stpF (l : List UInt8) : St :=
  if rnL l = 32 ∨ rnL l = 9 ∨ rnL l = 10 ∨ rnL l = 13 then .skip 1
  else if Lib.hasPrefix l [45, 45] then .skip (spnF l.length (fun r => decide (r ≠ 10)) l)
  else if letB (rnL l) then
    if 40 < spnF l.length inNm l then .bad 14 0
    else .tok (if wordB (l.take (spnF l.length inNm l)) then 2 else 1) (l.take (spnF l.length inNm l)) 0 (spnF l.length inNm l)
  else if digB (rnL l) then
    if W.parE (l.take (spnF l.length inNm l)) ≠ 0 then .bad (W.parE (l.take (spnF l.length inNm l))) 0
    else .tok 3 (l.take (spnF l.length inNm l)) (W.parN (l.take (spnF l.length inNm l))) (spnF l.length inNm l)
  else if rnL l = 39 ∨ rnL l = 34 then
    match qtF (l.drop 1).length (l.headD 0) (l.drop 1) 1 [] with
    | .ok v n => .tok 4 v 0 n
    | .bad c o => .bad c o
  else if sgz l = 0 then .bad 4 0
  else .tok 5 (l.take (sgz l)) 0 (sgz l)
theorem stpF_eq (l : List UInt8) : stpF l = stp l := by
  unfold stpF stp
  rw [spnF_eq _ _ _ (Nat.le_refl _), spnF_eq _ _ _ (Nat.le_refl _), qtF_eq _ _ _ _ _ (Nat.le_refl _)]
  rfl
def scnF : Nat → List UInt8 → Nat → List Tok → Res
  | 0, _, p, acc => .ok (acc ++ [⟨6, [], 0, p⟩])
  | _ + 1, [], p, acc => .ok (acc ++ [⟨6, [], 0, p⟩])
  | m + 1, c :: u, p, acc =>
    match stpF (c :: u) with
    | .skip n => scnF m (u.drop (n - 1)) (p + n) acc
    | .tok k t v n => scnF m (u.drop (n - 1)) (p + n) (acc ++ [⟨k, t, v, p⟩])
    | .bad d o => .bad d (p + o)
theorem scnF_eq : ∀ (m : Nat) (l : List UInt8) (p : Nat) (acc : List Tok), l.length ≤ m → scnF m l p acc = scn l p acc
  | 0, l, p, acc, h => by
    have : l = [] := List.eq_nil_of_length_eq_zero (by omega)
    subst this; rw [scn_nil]; rfl
  | m + 1, [], p, acc, _ => by rw [scn_nil]; rfl
  | m + 1, c :: u, p, acc, h => by
    simp only [List.length_cons] at h
    rw [scn, scnF, stpF_eq]
    cases stp (c :: u) with
    | skip n => simp only; rw [scnF_eq m _ _ _ (by rw [List.length_drop]; omega)]
    | tok k t v n => simp only; rw [scnF_eq m _ _ _ (by rw [List.length_drop]; omega)]
    | bad d o => rfl
def scTF (l : List UInt8) : List Tok × Int × Int :=
  if 20000 < l.length then ([], 14, -1) else match scnF l.length l 0 [] with | .ok ts => (ts, 0, 0) | .bad c p => ([], c, p)
theorem scTF_eq (l : List UInt8) : scTF l = scT l := by
  have h := scnF_eq l.length l 0 [] (Nat.le_refl _)
  unfold scTF scT
  split
  · rfl
  · cases hs : scn l 0 [] with
    | ok ts => rw [hs] at h; simp only [h]
    | bad c p => rw [hs] at h; simp only [h]

def ex1 : List UInt8 := [120, 61, 49, 48, 32, 45, 45, 99, 10, 46, 46, 39, 97, 92, 54, 53, 92, 120, 52, 50, 92, 117, 123, 50, 48, 65, 67, 125, 39]
theorem scan_ex1 : scT ex1 = ([⟨1, [120], 0, 0⟩, ⟨5, [61], 0, 1⟩, ⟨3, [49, 48], 10, 2⟩, ⟨5, [46, 46], 0, 9⟩, ⟨4, [97, 65, 66, 226, 130, 172], 0, 11⟩, ⟨6, [], 0, 29⟩], 0, 0) := by
  rw [← scTF_eq]; kernel_rfl
theorem scan_ex2 : scT [97, 126, 98] = ([], 4, 1) := by
  rw [← scTF_eq]; kernel_rfl

/-! ### how structs are compared -/
theorem bytes_iff {s s' : ByteArray} : s.toList = s'.toList ↔ s = s' := by
  rw [ByteArray.toList_eq, ByteArray.toList_eq]
  constructor
  · intro h
    obtain ⟨⟨x⟩⟩ := s
    obtain ⟨⟨y⟩⟩ := s'
    simp at h
    rw [h]
  · intro h; rw [h]
theorem under25 : Try.prog.underlying 25 = some (.struct (Try.prog.fieldsOf 25)) := by kernel_rfl
theorem stood25 : Try.prog.stoodInHeld 25 = false := by kernel_rfl
theorem guard25 : Try.prog.eqGuardType Try.prog.depth 25 = false := by kernel_rfl
theorem under36 : Try.prog.underlying 36 = some (.struct (Try.prog.fieldsOf 36)) := by kernel_rfl
theorem stood36 : Try.prog.stoodInHeld 36 = false := by kernel_rfl
theorem guard36 : Try.prog.eqGuardType Try.prog.depth 36 = false := by kernel_rfl
theorem eql25 (a b c d : Int) (W : World) : (binOp .eql 25 (.agg #[.int .i64 a, .int .i64 b]) (.agg #[.int .i64 c, .int .i64 d])).run Try.prog W = .ok (.bool (decide (a = c ∧ b = d))) W := by
  rw [run_eql_struct, run_equalIn_agg W _ _ _ _ under25 stood25]
  simp [go_sem]
  by_cases h1 : a = c <;> by_cases h2 : b = d <;> simp [h1, h2]
theorem neq25 (a b c d : Int) (W : World) : (binOp .neq 25 (.agg #[.int .i64 a, .int .i64 b]) (.agg #[.int .i64 c, .int .i64 d])).run Try.prog W = .ok (.bool (!decide (a = c ∧ b = d))) W := by
  rw [run_neq_struct, run_equalIn_agg W _ _ _ _ under25 stood25]
  simp [go_sem]
  by_cases h1 : a = c <;> by_cases h2 : b = d <;> simp [h1, h2]
theorem eql36 (a c d a' c' d' : Int) (s s' : ByteArray) (W : World) : (binOp .eql 36 (.agg #[.int .i64 a, .string s, .int .i64 c, .int .i64 d]) (.agg #[.int .i64 a', .string s', .int .i64 c', .int .i64 d'])).run Try.prog W = .ok (.bool (decide (a = a' ∧ s = s' ∧ c = c' ∧ d = d'))) W := by
  rw [run_eql_struct, run_equalIn_agg W _ _ _ _ under36 stood36]
  simp [go_sem, bytes_iff]
  by_cases h1 : a = a' <;> by_cases h2 : s = s' <;> by_cases h3 : c = c' <;> by_cases h4 : d = d' <;> simp [h1, h2, h3, h4]
theorem neq36 (a c d a' c' d' : Int) (s s' : ByteArray) (W : World) : (binOp .neq 36 (.agg #[.int .i64 a, .string s, .int .i64 c, .int .i64 d]) (.agg #[.int .i64 a', .string s', .int .i64 c', .int .i64 d'])).run Try.prog W = .ok (.bool (!decide (a = a' ∧ s = s' ∧ c = c' ∧ d = d'))) W := by
  rw [run_neq_struct, run_equalIn_agg W _ _ _ _ under36 stood36]
  simp [go_sem, bytes_iff]
  by_cases h1 : a = a' <;> by_cases h2 : s = s' <;> by_cases h3 : c = c' <;> by_cases h4 : d = d' <;> simp [h1, h2, h3, h4]

end Go.Proofs.Ytgjeiepcbenejaa

/- The walk of fixed: the document's first example. -/
namespace Go.Proofs.Ytgjeiepcbenejaa
open Go.RowKit

set_option maxRecDepth 20000 in
set_option maxHeartbeats 2000000 in
theorem fixed_any (w : World) : Calls Try.prog 11 #[] w fun e w' => e = .returned (.bool true) ∧ Below w.heap.size w w' := by
  have C1 := fun w => Scan_any ⟨#[120, 61, 49, 48, 32, 45, 45, 99, 10, 46, 46, 39, 97, 92, 54, 53, 92, 120, 52, 50, 92, 117, 123, 50, 48, 65, 67, 125, 39]⟩ w (by decide)
  have C2 := fun w => Scan_any ⟨#[97, 126, 98]⟩ w (by decide)
  have e1 := scan_ex1
  have e2 := scan_ex2
  unfold ex1 at e1
  simp only at C1 C2
  rw [e1] at C1
  rw [e2] at C2
  simp only at C1 C2
  clear e1 e2
  have hq1 := fun W => eql25 0 0 0 0 W
  have hq2 := fun W => eql25 4 1 4 1 W
  have hq3 := fun W => eql36 6 0 29 6 0 29 ⟨#[]⟩ ⟨#[]⟩ W
  have g25 := guard25
  have g36 := guard36
  go_enter Try.func11, Try.ntmps11
  go_wp2_with fail
  refine (C1 _).mono ?_
  rintro e w1 ⟨v1, rfl, ho1, hb1⟩
  obtain ⟨g, cap, rfl, hg1, hg2, hg3, hcs⟩ := row_cells ho1 (by decide)
  have hlen : [(⟨1, [120], 0, 0⟩ : Tok), ⟨5, [61], 0, 1⟩, ⟨3, [49, 48], 10, 2⟩, ⟨5, [46, 46], 0, 9⟩, ⟨4, [97, 65, 66, 226, 130, 172], 0, 11⟩, ⟨6, [], 0, 29⟩].length = 6 := rfl
  rw [hlen]
  have k10 := hcs 10 _ rfl
  have k17 := hcs 17 _ rfl
  have k20 := hcs 20 _ rfl
  have k21 := hcs 21 _ rfl
  have k22 := hcs 22 _ rfl
  have k23 := hcs 23 _ rfl
  clear hcs ho1 C1
  go_wp2_with fail
  refine (C2 _).mono ?_
  rintro e w2 ⟨v2, rfl, ho2, hb2⟩
  obtain ⟨a2, c2, rfl⟩ := slice_shape ho2
  have hsz := hb2.size
  simp only [World.size_alloc] at hsz
  have far : ∀ o u, w1.cell? ⟨g, o, none⟩ = some u → ∀ x, (w2.alloc x).cell? ⟨g, o, none⟩ = some u := fun o u hu x => alloc_cell (by omega) ((hb2.cell (p := ⟨g, o, none⟩) (by simp; omega)).trans (alloc_cell hg2 hu _)) x
  have m10 := far 10 _ k10
  have m17 := far 17 _ k17
  have m20 := far 20 _ k20
  have m21 := far 21 _ k21
  have m22 := far 22 _ k22
  have m23 := far 23 _ k23
  have f0 : ∀ x, (w2.alloc x).cell? ⟨w1.heap.size, 0, none⟩ = some (.int .i64 0) := alloc_cell (by omega) ((hb2.cell (p := ⟨w1.heap.size, 0, none⟩) (by simp)).trans (by simp [go_sem]))
  have f1 : ∀ x, (w2.alloc x).cell? ⟨w1.heap.size, 1, none⟩ = some (.int .i64 0) := alloc_cell (by omega) ((hb2.cell (p := ⟨w1.heap.size, 1, none⟩) (by simp)).trans (by simp [go_sem]))
  clear far C2 k10 k17 k20 k21 k22 k23
  go_wp2
  go_ret
  have h1 := hb1.size
  exact ⟨rfl, ((hb1.alloc h1 _).trans (hb2.mono (by simp; omega))).alloc (by omega) _⟩

end Go.Proofs.Ytgjeiepcbenejaa

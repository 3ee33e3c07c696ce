/- The sizes of the two parts: what the counts say, the walk of Sizes, the answers that stand ahead of each law. -/
import Derived.Test.YtpmmploedkbeoaaGreatDoorCg05
import Derived.Test.YtpmmploedkbeoaaGreatDoorProg
import Derived.WalkKit
import Derived.WalkSpells
import Derived.Below
import Derived.MapKept
import Derived.RegionTactic
import Derived.Laws.MakeOwn
import Derived.Laws.Rows
import Derived.OwnWalk
import Derived.Tactics
import Derived.Tactics2
import Derived.LoopTactic
import Derived.Maps.GroupsBeside
import Derived.Deep.AppendLies
namespace Go.Proofs.YtpmmploedkbeoaaGreatDoor.C
open Go.RowKit

theorem getD_range (f : Nat → Int) (i n : Nat) (h : i < n) : ((List.range n).map f).getD i 0 = f i := by simp [List.getD, h]
theorem pre_cnt (l : List Int) (k : Nat) (hk : k ≤ 17) : pre (cntL l) k = (l.countP (fun x => decide (0 ≤ lg x ∧ lg x < k)) : Nat) := by
  induction k with
  | zero =>
    have : l.countP (fun x => decide (0 ≤ lg x ∧ lg x < ((0 : Nat) : Int))) = 0 := by
      rw [List.countP_eq_zero]; intro x _; simp
    rw [this]; simp [pre]
  | succ k ih =>
    rw [pre_succ _ _ (by rw [cntL_len]; omega), ih (by omega), cntL_get _ _ (by omega)]
    unfold cnt
    clear ih
    induction l with
    | nil => simp
    | cons x l il =>
      simp only [List.countP_cons, decide_eq_true_eq]
      have e : ((0 ≤ lg x ∧ lg x < ((k + 1 : Nat) : Int)) ↔ (0 ≤ lg x ∧ lg x < (k : Int)) ∨ lg x = (k : Int)) := by omega
      by_cases h1 : 0 ≤ lg x ∧ lg x < (k : Int)
      · rw [if_pos h1, if_neg (by omega), if_pos (e.2 (.inl h1))]; omega
      · by_cases h2 : lg x = (k : Int)
        · rw [if_neg h1, if_pos h2, if_pos (e.2 (.inr h2))]; omega
        · rw [if_neg h1, if_neg h2, if_neg (by omega)]; omega
theorem pre_le (l : List Int) (k : Nat) (hk : k ≤ 17) : 0 ≤ pre (cntL l) k ∧ pre (cntL l) k ≤ l.length := by
  rw [pre_cnt l k hk]
  have := List.countP_le_length (p := fun x => decide (0 ≤ lg x ∧ lg x < (k : Int))) (l := l)
  omega
theorem chN_cases (c : List Int) (n : Nat) : (chA c n = 0 ∧ chN c n = 0) ∨ ∃ k, k < n ∧ chA c n = 2 ^ k ∧ chN c n = pre c (k + 1) := by
  induction n with
  | zero => exact .inl ⟨rfl, rfl⟩
  | succ n ih =>
    rw [chA_succ, chN_succ]
    by_cases h : (2 : Int) ^ n < 2 * pre c (n + 1)
    · rw [if_pos h, if_pos h]
      exact .inr ⟨n, by omega, rfl, rfl⟩
    · rw [if_neg h, if_neg h]
      rcases ih with ih | ⟨k, hk, h1, h2⟩
      · exact .inl ih
      · exact .inr ⟨k, by omega, h1, h2⟩
theorem chN_le (l : List Int) : 0 ≤ chN (cntL l) 17 ∧ chN (cntL l) 17 ≤ l.length := by
  rcases chN_cases (cntL l) 17 with ⟨_, h⟩ | ⟨k, hk, _, h⟩
  · rw [h]; omega
  · rw [h]; exact pre_le l (k + 1) (by omega)
theorem okC_cnt (l : List Int) (h : l.length ≤ 1000000) : okC (cntL l) = true := by
  simp only [okC, Bool.and_eq_true, beq_iff_eq, List.all_eq_true, decide_eq_true_eq]
  refine ⟨cntL_len l, fun x hx => ?_⟩
  simp only [cntL, List.mem_map] at hx
  obtain ⟨i, _, rfl⟩ := hx
  have := cnt_bound l i
  omega

/-- What Sizes answers. -/
def rest (l : List Int) : Int := l.length - chN (cntL l) 17
def szE (l : List Int) (o : Int) : Int := if o < 0 then 1 else if ¬ l.Nodup then 2 else if 65536 < o ∨ 65536 < o + rest l then 14 else 0
def szA (l : List Int) (o : Int) : Int := if szE l o = 0 then chA (cntL l) 17 else 0
def szH (l : List Int) (o : Int) : Int := if szE l o = 0 then up2 (o + rest l) else 0

theorem Own17.ints' {G : Nat} {w : World} {l : List Int} (h : Own17 G w (cnt l)) : Ints w.heap.size w (.slice (some ⟨G, 0, none⟩) 17 17) (cntL l) := by
  refine Own17.ints ⟨fun j hj => ?_, h.2⟩ (cntL_len l)
  show _ = some (Value.int .i64 ((cntL l).getD j 0))
  rw [cntL_get l j hj]; exact h.1 j hj

set_option maxRecDepth 20000 in
set_option maxHeartbeats 1000000 in
theorem sizes_any (l : List Int) (o : Int) (v : Value) (w : World) (h : Ints w.heap.size w v l) (hf : Fit l) (hlen : l.length ≤ 1000000) :
    Calls Tryz.prog 148 #[v, .int .i64 o] w fun e w' => e = .returned (.tuple #[.int .i64 (szA l o), .int .i64 (szH l o), .int .i64 (szE l o)]) ∧ Below w.heap.size w w' := by
  by_cases h0 : o < 0
  · have e1 : szE l o = 1 := by unfold szE; rw [if_pos h0]
    have e2 : szA l o = 0 := by unfold szA; rw [e1, if_neg (by omega)]
    have e3 : szH l o = 0 := by unfold szH; rw [e1, if_neg (by omega)]
    rw [e1, e2, e3]
    obtain ⟨a, cap, rfl, hcap, h⟩ := h
    clear h hf e1 e2 e3
    generalize l.length = L at *
    go_enter Tryz.func148, Tryz.ntmps148
    go_wp2
    go_ret3
    exact ⟨rfl, Below.refl _ _⟩
  have C1 := twice_any l v w h hlen
  by_cases hn : l.Nodup
  · have hd : decide (¬ l.Nodup) = false := by simpa using hn
    rw [hd] at C1
    have hok := okC_cnt l hlen
    have hN := chN_le l
    have C2 := fun w1 (hb : Below w.heap.size w w1) => count_any l v w1 (h.go hb) hf hlen
    have C3 : ∀ w2 G, Own17 G w2 (cnt l) → Calls Tryz.prog 223 #[.slice (some ⟨G, 0, none⟩) 17 17] w2 fun e w' => e = .returned (.tuple #[.int .i64 (chA (cntL l) 17), .int .i64 (chN (cntL l) 17), .int .i64 0]) ∧ w' = w2 := fun w2 G q => choose_ok (cntL l) _ w2 q.ints' hok
    have e1 : szE l o = if 65536 < o ∨ 65536 < o + rest l then 14 else 0 := by unfold szE; rw [if_neg h0, if_neg (by simpa using hn)]
    unfold szA szH
    rw [e1]
    unfold rest
    obtain ⟨a, cap, rfl, hcap, h⟩ := h
    clear h hf hcap hn hok hd e1
    generalize l.length = L at *
    generalize chN (cntL l) 17 = N at *
    generalize chA (cntL l) 17 = A at *
    by_cases hb1 : 65536 < o
    · have e : (if 65536 < o ∨ 65536 < o + ((L : Int) - N) then (14 : Int) else 0) = 14 := if_pos (.inl hb1)
      rw [e, if_neg (by omega), if_neg (by omega)]
      clear e
      go_enter Tryz.func148, Tryz.ntmps148
      go_wp2_with fail
      refine C1.mono ?_
      rintro e w1 ⟨rfl, hb⟩
      go_wp2_with fail
      refine (C2 w1 hb).mono ?_
      rintro e w2 ⟨rfl, ho, hb2⟩
      go_wp2_with fail
      refine (C3 _ _ ho).mono ?_
      rintro e w3 ⟨rfl, rfl⟩
      clear ho C1 C2 C3
      go_wp2_with fail
      go_ret3
      exact ⟨rfl, bthen hb hb.size hb2⟩
    · by_cases hb2 : 65536 < o + (L - N)
      · have e : (if 65536 < o ∨ 65536 < o + ((L : Int) - N) then (14 : Int) else 0) = 14 := if_pos (.inr hb2)
        rw [e, if_neg (by omega), if_neg (by omega)]
        clear e
        go_enter Tryz.func148, Tryz.ntmps148
        go_wp2_with fail
        refine C1.mono ?_
        rintro e w1 ⟨rfl, hb⟩
        go_wp2_with fail
        refine (C2 w1 hb).mono ?_
        rintro e w2 ⟨rfl, ho, hb2⟩
        go_wp2_with fail
        refine (C3 _ _ ho).mono ?_
        rintro e w3 ⟨rfl, rfl⟩
        clear ho C1 C2 C3
        go_wp2_with fail
        go_ret3
        exact ⟨rfl, bthen hb hb.size hb2⟩
      · have e : (if 65536 < o ∨ 65536 < o + ((L : Int) - N) then (14 : Int) else 0) = 0 := if_neg (by omega)
        rw [e, if_pos rfl, if_pos rfl]
        clear e
        have C4 := fun W => ceil_any (o + (L - N)) W (by omega) (by omega)
        generalize up2 (o + (L - N)) = H at *
        go_enter Tryz.func148, Tryz.ntmps148
        go_wp2_with fail
        refine C1.mono ?_
        rintro e w1 ⟨rfl, hb⟩
        go_wp2_with fail
        refine (C2 w1 hb).mono ?_
        rintro e w2 ⟨rfl, ho, hb2⟩
        go_wp2_with fail
        refine (C3 _ _ ho).mono ?_
        rintro e w3 ⟨rfl, rfl⟩
        clear ho C1 C2 C3
        go_wp2_with (go_at_call 99; refine (C4 _).mono ?_; rintro e w' ⟨rfl, rfl⟩)
        go_ret3
        exact ⟨rfl, bthen hb hb.size hb2⟩
  · have hd : decide (¬ l.Nodup) = true := by simpa using hn
    rw [hd] at C1
    have e1 : szE l o = 2 := by unfold szE; rw [if_neg h0, if_pos hn]
    have e2 : szA l o = 0 := by unfold szA; rw [e1, if_neg (by omega)]
    have e3 : szH l o = 0 := by unfold szH; rw [e1, if_neg (by omega)]
    rw [e1, e2, e3]
    obtain ⟨a, cap, rfl, hcap, h⟩ := h
    clear h hf e1 e2 e3
    generalize l.length = L at *
    go_enter Tryz.func148, Tryz.ntmps148
    go_wp2_with fail
    refine C1.mono ?_
    rintro e w1 ⟨rfl, hb⟩
    go_wp2_with fail
    go_ret3
    exact ⟨rfl, hb⟩

end Go.Proofs.YtpmmploedkbeoaaGreatDoor.C

/- How many keys an array takes, and the walk of the law CensusDense. -/
namespace Go.Proofs.YtpmmploedkbeoaaGreatDoor.C
open Go.RowKit

/-- How many are from 1 to a. -/
def wi (l : List Int) (a : Int) : Int := (l.countP (fun x => decide (1 ≤ x ∧ x ≤ a)) : Nat)
theorem wi_bound (l : List Int) (a : Int) : 0 ≤ wi l a ∧ wi l a ≤ l.length := by
  have := List.countP_le_length (p := fun x => decide (1 ≤ x ∧ x ≤ a)) (l := l)
  unfold wi
  omega
theorem wi_succ (l : List Int) (k : Nat) (a : Int) (h : k < l.length) : wi (l.take (k + 1)) a = wi (l.take k) a + (if 1 ≤ l.getD k 0 ∧ l.getD k 0 ≤ a then 1 else 0) := by
  rw [take_snoc l k h]
  unfold wi
  rw [List.countP_append, List.countP_singleton]
  by_cases hq : 1 ≤ l.getD k 0 ∧ l.getD k 0 ≤ a
  · rw [if_pos hq, if_pos (by simpa using hq)]; rfl
  · rw [if_neg hq, if_neg (by simpa using hq)]; rfl

theorem lg_le (x : Int) (i : Nat) (h1 : x ≤ 9223372036854775807) : (1 ≤ x ∧ x ≤ 2 ^ i) ↔ (0 ≤ lg x ∧ lg x < ((i + 1 : Nat) : Int)) := by
  have hp := pow_int i
  by_cases h0 : 1 ≤ x
  · obtain ⟨a, b, c⟩ := lgN_spec x h0 h1
    rw [lg_pos x h0]
    constructor
    · intro h
      refine ⟨by omega, ?_⟩
      rcases b with b | b
      · omega
      · rcases Nat.lt_or_ge (lgN x) (i + 1) with q | q
        · omega
        · have := Nat.pow_le_pow_right (n := 2) (by omega) (show i ≤ lgN x - 1 by omega)
          omega
    · intro h
      have := Nat.pow_le_pow_right (n := 2) (by omega) (show lgN x ≤ i by omega)
      omega
  · have : lg x = -1 := by unfold lg; rw [if_pos (by omega)]
    omega
theorem Fit.mem {l : List Int} (h : Fit l) {x : Int} (hx : x ∈ l) : -9223372036854775808 ≤ x ∧ x ≤ 9223372036854775807 := by
  obtain ⟨i, hi, rfl⟩ := List.getElem_of_mem hx
  have := h i hi
  rwa [List.getD, List.getElem?_eq_getElem hi] at this
theorem wi_pre (l : List Int) (hf : Fit l) (i : Nat) (hi : i ≤ 16) : wi l (2 ^ i) = pre (cntL l) (i + 1) := by
  rw [pre_cnt l (i + 1) (by omega)]
  unfold wi
  congr 1
  apply List.countP_congr
  intro x hx
  simp only [decide_eq_true_eq]
  exact lg_le x i (hf.mem hx).2
theorem chA_max (c : List Int) (n j : Nat) (hj : j < n) (h : chA c n < 2 ^ j) : ¬ (2 : Int) ^ j < 2 * pre c (j + 1) := by
  induction n with
  | zero => omega
  | succ n ih =>
    rw [chA_succ] at h
    by_cases hq : (2 : Int) ^ n < 2 * pre c (n + 1)
    · rw [if_pos hq] at h
      by_cases hjn : j = n
      · subst hjn; omega
      · have := Nat.pow_le_pow_right (n := 2) (by omega) (show j ≤ n by omega)
        have h1 := pow_int j
        have h2 := pow_int n
        omega
    · rw [if_neg hq] at h
      by_cases hjn : j = n
      · subst hjn; exact hq
      · exact ih (by omega) h

/-- What the law asks of the array: a, with so many of 1 to a. -/
structure Dense (l : List Int) (A N : Int) : Prop where
  a0 : 0 ≤ A
  a1 : A ≤ 65536
  n : wi l A = N
  half : ¬ A = 0 → A < 2 * N
  most : ∀ j, j ≤ 16 → A < 2 ^ j → 2 * wi l (2 ^ j) ≤ 2 ^ j
theorem dense_of (l : List Int) (hf : Fit l) : Dense l (chA (cntL l) 17) (chN (cntL l) 17) := by
  have hm : ∀ j, j ≤ 16 → chA (cntL l) 17 < 2 ^ j → 2 * wi l (2 ^ j) ≤ 2 ^ j := fun j hj h => by
    have := chA_max (cntL l) 17 j (by omega) h
    rw [wi_pre l hf j hj]
    omega
  have hh : chA (cntL l) 17 ≠ 0 → chA (cntL l) 17 < 2 * chN (cntL l) 17 := by
    generalize 17 = n
    induction n with
    | zero => intro h; exact absurd rfl h
    | succ n ih =>
      rw [chA_succ, chN_succ]
      by_cases hq : (2 : Int) ^ n < 2 * pre (cntL l) (n + 1)
      · rw [if_pos hq, if_pos hq]; intro _; exact hq
      · rw [if_neg hq, if_neg hq]; exact ih
  rcases chN_cases (cntL l) 17 with ⟨h1, h2⟩ | ⟨k, hk, h1, h2⟩
  · refine ⟨by omega, by omega, ?_, hh, hm⟩
    rw [h1, h2]
    unfold wi
    have : l.countP (fun x => decide (1 ≤ x ∧ x ≤ 0)) = 0 := by
      rw [List.countP_eq_zero]; intro x _; simp; omega
    rw [this]; rfl
  · have := pow16 k (by omega)
    exact ⟨by omega, by omega, by rw [h1, h2]; exact wi_pre l hf k (by omega), hh, hm⟩

theorem up2_facts (n : Int) (h0 : 0 ≤ n) (h1 : n ≤ 65536) : (n = 0 ∧ up2 n = 0) ∨ (0 < n ∧ n ≤ up2 n ∧ up2 n / 2 < n ∧ 1 ≤ up2 n ∧ up2 n ≤ 1073741824) := by
  unfold up2
  by_cases hz : n = 0
  · rw [if_pos hz]; exact .inl ⟨hz, rfl⟩
  · rw [if_neg hz]
    obtain ⟨_, h2, h3, h4, h5, _⟩ := cl_facts n (by omega) (by omega)
    exact .inr ⟨by omega, h2, h3, h4, h5⟩

/-- The three ways in which Sizes refuses. -/
theorem szE_cases (l : List Int) (o : Int) : (szE l o = 0 ∧ 0 ≤ o ∧ o + rest l ≤ 65536 ∧ szA l o = chA (cntL l) 17 ∧ szH l o = up2 (o + rest l)) ∨
    (szA l o = 0 ∧ szH l o = 0 ∧ ((o < 0 ∧ szE l o = 1) ∨ (0 ≤ o ∧ szE l o = 2) ∨ (0 ≤ o ∧ szE l o = 14))) := by
  unfold szA szH
  by_cases h0 : o < 0
  · have e : szE l o = 1 := by unfold szE; rw [if_pos h0]
    rw [e]
    exact .inr ⟨rfl, rfl, .inl ⟨h0, rfl⟩⟩
  · by_cases hn : ¬ l.Nodup
    · have e : szE l o = 2 := by unfold szE; rw [if_neg h0, if_pos hn]
      rw [e]
      exact .inr ⟨rfl, rfl, .inr (.inl ⟨by omega, rfl⟩)⟩
    · by_cases hb : 65536 < o ∨ 65536 < o + rest l
      · have e : szE l o = 14 := by unfold szE; rw [if_neg h0, if_neg hn, if_pos hb]
        rw [e]
        exact .inr ⟨rfl, rfl, .inr (.inr ⟨by omega, rfl⟩)⟩
      · have e : szE l o = 0 := by unfold szE; rw [if_neg h0, if_neg hn, if_neg hb]
        rw [e, if_pos rfl, if_pos rfl]
        exact .inl ⟨rfl, by omega, by omega, rfl, rfl⟩

theorem cmpA {A : Int} (_ : 0 ≤ A) (P : Int) : A < P ∨ ¬ A < P := Classical.em _

end Go.Proofs.YtpmmploedkbeoaaGreatDoor.C

/- A heap of the program's in memory: the map of lists that lie ready, the struct, the blocks; what a call leaves as it was. -/
namespace Go.Proofs.YtpmmploedkbeoaaGreatDoor.H
open Go.RowKit Go.Maps Go.WideElems Go.MapKept Go.ChangeShapes

theorem zero22 (w : World) : (zeroValue 170).run Tryz.prog w = .ok (.slice none 0 0) w := by kernel_rfl
theorem law3 : Keyed Tryz.prog 3 := int_keyed Tryz.underlying3
theorem key3 {k : Int} (h : (Lit.int .i64 k).wf = true) : keyOf Tryz.prog 3 (.int .i64 k) = some (.int .i64 k) := keyOf_int_mk Tryz.underlying3 h
theorem wf_of {k : Int} (h0 : -9223372036854775808 ≤ k) (h1 : k ≤ 9223372036854775807) : (Lit.int .i64 k).wf = true := WalkArith.wf_i64 (by omega)

/-- The numbers of a list as it is read. -/
def items : DataW Unit → List Int
  | .slice es _ => es.filterMap fun | .lit (.int _ n) => some n | _ => none
  | _ => []
theorem items_lits (q : IntKind) (zs : List Int) : items (.slice (lits q zs) []) = zs := by
  simp only [items, lits, List.filterMap_map]
  induction zs with
  | nil => rfl
  | cons z zs ih => simp [ih]
theorem items_row {w : World} {base : Nat} {v : Value} {zs : List Int} (h : w.ownsInts base 3 .i64 v zs) : items (rowDatum .i64 v zs) = zs := by
  rcases h.datum (H := Unit) with ⟨e, e2⟩ | e
  · rw [e, e2]; rfl
  · rw [e]; exact items_lits _ _

/-- Block b is the map; at the key k it holds the list R k; none of its rows is one of No's. -/
def Rdy (No : Nat → Prop) (w : World) (b n : Nat) (R : Int → List Int) : Prop :=
  ∃ D : DataW Unit, w.ownsGroups Tryz.prog 3 (b + 1) 3 .i64 b n D ∧ w.Shuns b No ∧ ∀ k, (Lit.int .i64 k).wf = true → items (D.atKey (.int .i64 k) .nil) = R k

theorem Rdy.block {No : Nat → Prop} {w : World} {b n : Nat} {R : Int → List Int} (h : Rdy No w b n R) : ∃ es clock, w.heap[b]? = some (.map es clock) := by
  obtain ⟨D, ⟨es, clock, hb, _⟩, _⟩ := h
  exact ⟨es, clock, hb⟩

theorem Rdy.made (No : Nat → Prop) (w : World) : Rdy No (w.alloc (.map #[] 0)) w.heap.size 0 (fun _ => []) :=
  ⟨.map [], World.ownsGroups_made w _ _ _ _, World.Shuns_made w No, fun _ _ => rfl⟩

/-- Over whatever turns one other block that is no row of ints. -/
theorem Rdy.kept {No : Nat → Prop} {w w' : World} {b n : Nat} {row : Option Nat} {R : Int → List Int} (h : Rdy No w b n R) (hg : w.grownBy w' row) (hr : ∀ g, row = some g → b ≠ g ∧ ∀ cs fr, w.heap[g]? ≠ some (.cells cs 3 fr)) : Rdy No w' b n R := by
  obtain ⟨D, ho, hs, hR⟩ := h
  have hlt : b < w.heap.size := by obtain ⟨es, clock, q, _⟩ := ho; exact (Array.getElem?_eq_some_iff.1 q).1
  have hb : some b ≠ row := fun e => (hr b e.symm).1 rfl
  refine ⟨D, ho.kept hg hb (fun es clock hbk x hx => ?_), hs.kept hg hlt hb, hR⟩
  obtain ⟨es', clock', hbk', F, _⟩ := ho
  obtain ⟨rfl, rfl⟩ : es' = es ∧ clock' = clock := by rw [hbk'] at hbk; simpa using hbk
  cases q : x.val.ownBlock with
  | none => exact .inl rfl
  | some y =>
    right
    intro e
    obtain ⟨z, hz⟩ := F.reads x hx
    obtain ⟨z2, hz2, _⟩ := rd_val hz
    obtain ⟨zs, hoi, _⟩ := rowElem_inv hz2
    rcases hoi.1.2 with ⟨e1, _⟩ | ⟨g', cap, cur, e1, _, hh, _⟩
    · rw [e1] at q; cases q
    · rw [e1] at q
      injection q with q
      subst q
      exact (hr _ e.symm).2 _ _ hh
theorem Rdy.alloc {No : Nat → Prop} {w : World} {b n : Nat} {R : Int → List Int} (h : Rdy No w b n R) (o : Obj) : Rdy No (w.alloc o) b n R := by
  obtain ⟨D, ho, hs, hR⟩ := h
  have hlt : b < w.heap.size := by obtain ⟨es, clock, q, _⟩ := ho; exact (Array.getElem?_eq_some_iff.1 q).1
  refine ⟨D, ho.kept (World.grownBy_alloc w o none) (by simp) (fun es clock hbk x hx => ?_), hs.kept (World.grownBy_alloc w o none) hlt (by simp), hR⟩
  cases x.val.ownBlock <;> simp
theorem Rdy.drew {No : Nat → Prop} {w : World} {b n : Nat} {R : Int → List Int} (h : Rdy No w b n R) : Rdy No w.drew b n R := by
  obtain ⟨D, ho, hs, hR⟩ := h
  have hlt : b < w.heap.size := by obtain ⟨es, clock, q, _⟩ := ho; exact (Array.getElem?_eq_some_iff.1 q).1
  have hg : w.grownBy w.drew none := ⟨rfl, rfl, rfl, Nat.le_refl _, fun _ _ _ => rfl⟩
  refine ⟨D, ho.kept hg (by simp) (fun es clock hbk x hx => ?_), hs.kept hg hlt (by simp), hR⟩
  cases x.val.ownBlock <;> simp
theorem Rdy.more {No : Nat → Prop} {w : World} {b n m : Nat} {R : Int → List Int} (h : Rdy No w b n R) (hm : n ≤ m) : Rdy No w b m R := by
  obtain ⟨D, ⟨es, clock, q1, q2, q3, q4, q5, q6, q7⟩, hs, hR⟩ := h
  exact ⟨D, ⟨es, clock, q1, q2, Nat.le_trans q3 hm, q4, q5, fun x hx zs h => Nat.le_trans (q6 x hx zs h) hm, q7⟩, hs, hR⟩
theorem Rdy.reno {No No' : Nat → Prop} {w : World} {b n : Nat} {R : Int → List Int} (h : Rdy No w b n R) (hn : ∀ g, No' g → No g ∨ w.heap.size ≤ g) : Rdy No' w b n R := by
  obtain ⟨D, ho, hs, hR⟩ := h
  exact ⟨D, ho, hs.reno ho hn, hR⟩

/-- A look at a key, and the way back. -/
theorem Rdy.look {No : Nat → Prop} {w : World} {b n : Nat} {R : Int → List Int} (h : Rdy No w b n R) (hn : n < maxLen) (k : Int) (hk : (Lit.int .i64 k).wf = true) :
    ∃ v, (Instr.lookup 68 (.map (some b)) (.int .i64 k) false).run Tryz.prog w = .ok v w ∧ w.ownsInts (b + 1) 3 .i64 v (R k) ∧ (R k).length ≤ n ∧ (∀ g, v.ownBlock = some g → ¬ No g) ∧
      ∀ w1 v' zs', w.grownBy w1 v.ownBlock → w1.ownsInts (b + 1) 3 .i64 v' zs' → zs'.length ≤ n + 1 → (v'.ownBlock = v.ownBlock ∨ ∃ g, v'.ownBlock = some g ∧ w.heap.size ≤ g) → (∀ g, v'.ownBlock = some g → ¬ No g) →
        ∃ w2, (Instr.mapUpdate 68 (.map (some b)) (.int .i64 k) v').run Tryz.prog w1 = .ok () w2 ∧ Rdy No w2 b (n + 1) (fun j => if j = k then zs' else R j) ∧ w1.grownBy w2 (some b) := by
  obtain ⟨D, ho, hs, hR⟩ := h
  obtain ⟨v, zs, hrun, hat, hoi, hlen, hback⟩ := ho.at law3 Tryz.underlying68 (zero22 w) hn (key3 hk)
  have hz : zs = R k := by rw [← hR k hk, hat, items_row hoi]
  subst hz
  have hno : ∀ g, v.ownBlock = some g → ¬ No g := by
    obtain ⟨es, clock, hb, F, _⟩ := ho
    rcases Maps.fit_look false law3 Tryz.underlying68 (zero22 w) hb F (key3 hk) with ⟨hrun', _, _⟩ | ⟨e0, y, hm0, _, hrun', _, _, _⟩
    · rw [hrun] at hrun'
      obtain rfl : v = .slice none 0 0 := by simpa using hrun'
      intro g hg'
      cases hg'
    · rw [hrun] at hrun'
      obtain rfl : v = e0.val := by simpa using hrun'
      exact fun g hg' => hs es clock hb e0 hm0 g hg'
  refine ⟨v, hrun, hoi, hlen, hno, fun w1 v' zs' hg hown hl hloc hno' => ?_⟩
  obtain ⟨w2, r0, r1, r2⟩ := hback w1 v' zs' hg hown hl hloc
  refine ⟨w2, r0, ⟨_, r1, ?_, fun j hj => ?_⟩, r2⟩
  · obtain ⟨es, clock, hb, F, hsz, _, hbb, _⟩ := ho
    have hblt : b < w.heap.size := (Array.getElem?_eq_some_iff.1 hb).1
    have hb1 : w1.heap[b]? = some (.map es clock) := (hg.block b hblt (fun e1 => by have := (hoi.1.lt b e1.symm).1; omega)).trans hb
    obtain ⟨es', clock', hb2, hwho⟩ := stored_who law3 Tryz.underlying68 hb1 F (Nat.lt_of_le_of_lt hsz hn) (key3 hk) r0
    intro es2 clock2 hb2' y hy g hyg
    obtain ⟨rfl, rfl⟩ : es' = es2 ∧ clock' = clock2 := by rw [hb2] at hb2'; simpa using hb2'
    rcases hwho y hy with ⟨hy0, _⟩ | ⟨_, hval⟩
    · exact hs es clock hb y hy0 g hyg
    · exact hno' g (hval ▸ hyg)
  · show items _ = (if j = k then zs' else R j)
    by_cases hjk : j = k
    · subst hjk
      have hD : IsMap D := by obtain ⟨es, clock, _, _, _, hD, _⟩ := ho; exact ⟨_, hD⟩
      rw [if_pos rfl, atKey_put_same hD (law3.key (key3 hk))]
      exact items_row hown
    · rw [if_neg hjk, atKey_put_other (fun e => hjk (by injection e))]
      exact hR j hj

theorem one_key {l : List MapEntry} (h : l.Pairwise (fun x y => x.key ≠ y.key)) {x y : MapEntry} (hx : x ∈ l) (hy : y ∈ l) (e : x.key = y.key) : x = y := by
  induction l with
  | nil => cases hx
  | cons a l ih =>
    rw [List.pairwise_cons] at h
    rcases List.mem_cons.1 hx with q1 | q1 <;> rcases List.mem_cons.1 hy with q2 | q2
    · rw [q1, q2]
    · exact absurd (q1 ▸ e) (h.1 y q2)
    · exact absurd (q2 ▸ e).symm (h.1 x q1)
    · exact ih h.2 q1 q2
set_option maxRecDepth 20000 in
/-- A look hangs on the map's block alone. -/
theorem Rdy.far {No : Nat → Prop} {w w' : World} {b n : Nat} {R : Int → List Int} (h : Rdy No w b n R) {k : Int} (hk : (Lit.int .i64 k).wf = true) {v : Value} (hl : (Instr.lookup 68 (.map (some b)) (.int .i64 k) false).run Tryz.prog w = .ok v w) (hb' : w'.heap[b]? = w.heap[b]?) :
    (Instr.lookup 68 (.map (some b)) (.int .i64 k) false).run Tryz.prog w' = .ok v w' := by
  obtain ⟨D, ⟨es, clock, hb, F, _⟩, _⟩ := h
  have hp := ((stamped_iff es clock).1 F.stamped).2.2
  rcases Maps.fit_look false law3 Tryz.underlying68 (zero22 w) hb F (key3 hk) with ⟨r1, n1, _⟩ | ⟨e0, y, m0, k0, r1, _⟩ <;>
    rcases Maps.fit_look false law3 Tryz.underlying68 (zero22 w') (hb'.trans hb) F (key3 hk) with ⟨r2, n2, _⟩ | ⟨e1, y1, m1, k1, r2, _⟩
  · rw [hl] at r1
    injection r1 with r1 _
    rw [r2, r1]
  · exact absurd k1 (n1 e1 m1)
  · exact absurd k0 (n2 e0 m0)
  · rw [hl] at r1
    injection r1 with r1 _
    rw [r2, r1, one_key hp m0 m1 (k0.trans k1.symm)]

/-- What a call leaves as it was: all blocks of No's. -/
structure Keep (No : Nat → Prop) (w w' : World) : Prop where
  os : w'.os = w.os
  tape : w'.tape = w.tape
  output : w'.output = w.output
  size : w.heap.size ≤ w'.heap.size
  block : ∀ g, g < w.heap.size → No g → w'.heap[g]? = w.heap[g]?
theorem Keep.refl (No : Nat → Prop) (w : World) : Keep No w w := ⟨rfl, rfl, rfl, Nat.le_refl _, fun _ _ _ => rfl⟩
theorem Keep.drew {No : Nat → Prop} {w w' : World} (h : Keep No w w') : Keep No w w'.drew := ⟨h.os, h.tape, h.output, h.size, h.block⟩
theorem Keep.trans {No : Nat → Prop} {w w1 w2 : World} (h : Keep No w w1) (k : Keep No w1 w2) : Keep No w w2 :=
  ⟨k.os.trans h.os, k.tape.trans h.tape, k.output.trans h.output, Nat.le_trans h.size k.size, fun g hg hn => (k.block g (Nat.lt_of_lt_of_le hg h.size) hn).trans (h.block g hg hn)⟩
theorem Keep.grown {No : Nat → Prop} {w w1 w2 : World} {row : Option Nat} (h : Keep No w w1) (k : w1.grownBy w2 row) (hr : ∀ g, row = some g → ¬ No g) : Keep No w w2 :=
  h.trans ⟨k.os, k.tape, k.output, k.size, fun g hg hn => k.block g hg (fun e => hr g e.symm hn)⟩
theorem Keep.alloc {No : Nat → Prop} {w w1 : World} (h : Keep No w w1) (o : Obj) : Keep No w (w1.alloc o) := h.grown (World.grownBy_alloc w1 o none) (by simp)
theorem Keep.sub {No No' : Nat → Prop} {w w' : World} (h : Keep No w w') (hn : ∀ g, No' g → No g) : Keep No' w w' := ⟨h.os, h.tape, h.output, h.size, fun g hg q => h.block g hg (hn g q)⟩
theorem Keep.below {N : Nat} {No : Nat → Prop} {w w' : World} (h : Keep No w w') (hN : N ≤ w.heap.size) (hn : ∀ g, g < N → No g) : Below N w w' :=
  ⟨h.os, h.tape, h.output, h.size, fun g hg => h.block g (by omega) (hn g hg)⟩
theorem gset (w : World) (b i : Nat) (v : Value) : w.grownBy (w.setCell ⟨b, i, none⟩ v) (some b) :=
  ⟨rfl, rfl, rfl, by simp [World.setCell], fun k _ hk => Below.heap_setCell _ _ _ _ (fun e => hk (by simp [e]))⟩
theorem gdrew (w : World) (row : Option Nat) : w.grownBy w.drew row := ⟨rfl, rfl, rfl, Nat.le_refl _, fun _ _ _ => rfl⟩

/-- The heap as plain data: the limit, the cells in use, the cells of all blocks; the blocks; what lies ready. -/
structure St where
  lim : Int
  live : Int
  laid : Int
  bl : List (Int × Bool)
  R : Int → List Int
def bcells (l : List (Int × Bool)) : List Value := l.flatMap fun p => [.int .i64 p.1, .bool p.2]
theorem bcells_len (l : List (Int × Bool)) : (bcells l).length = l.length * 2 := by
  induction l with
  | nil => rfl
  | cons p l ih => simp [bcells] at ih ⊢; omega
theorem bcells_app (l m : List (Int × Bool)) : bcells (l ++ m) = bcells l ++ bcells m := by simp [bcells]
theorem bcells_get (l : List (Int × Bool)) (i : Nat) (h : i < l.length) : (bcells l)[i * 2]? = some (.int .i64 (l[i]'h).1) ∧ (bcells l)[i * 2 + 1]? = some (.bool (l[i]'h).2) := by
  induction l generalizing i with
  | nil => simp at h
  | cons p l ih =>
    cases i with
    | zero => simp [bcells]
    | succ i =>
      have := ih i (by simpa using h)
      simp only [bcells, List.flatMap_cons, List.getElem_cons_succ] at this ⊢
      rw [show (i + 1) * 2 = i * 2 + 2 by omega]
      simpa using this
theorem bcells_set (l : List (Int × Bool)) (i : Nat) (h : i < l.length) (t : Bool) : (bcells l).set (i * 2 + 1) (.bool t) = bcells (l.set i ((l[i]'h).1, t)) := by
  induction l generalizing i with
  | nil => simp at h
  | cons p l ih =>
    cases i with
    | zero => simp [bcells]
    | succ i =>
      have := ih i (by simpa using h)
      simp only [bcells, List.flatMap_cons, List.getElem_cons_succ, List.set_cons_succ] at this ⊢
      rw [show (i + 1) * 2 + 1 = i * 2 + 1 + 2 by omega]
      simpa using this

/-- The heap lies at block S, its map at block b. -/
structure Hp (No : Nat → Prop) (w : World) (S b c : Nat) (vb : Value) (s : St) : Prop where
  str : w.heap[S]? = some (.cells #[.int .i64 s.lim, .int .i64 s.live, .int .i64 s.laid, vb, .map (some b)] 71 (0, 0))
  row : w.ownsRow 0 234 2 vb s.bl.length (bcells s.bl)
  rdy : Rdy No w b c s.R
  len : s.bl.length ≤ c
  noS : ¬ No S
  nob : ¬ No b
  nov : ∀ g, vb.ownBlock = some g → ¬ No g
  nos : ∀ g, No g → g < w.heap.size

theorem Hp.drew {No : Nat → Prop} {w : World} {S b c : Nat} {vb : Value} {s : St} (h : Hp No w S b c vb s) : Hp No w.drew S b c vb s := ⟨h.str, h.row, h.rdy.drew, h.len, h.noS, h.nob, h.nov, h.nos⟩
theorem Hp.reno {No No' : Nat → Prop} {w : World} {S b c : Nat} {vb : Value} {s : St} (h : Hp No w S b c vb s) (hn : ∀ g, No' g → No g ∨ (g < w.heap.size ∧ ¬ (g = S ∨ g = b ∨ vb.ownBlock = some g ∨ ∃ es clock, w.heap[b]? = some (.map es clock) ∧ ∃ x ∈ es.toList, x.val.ownBlock = some g))) : Hp No' w S b c vb s := by
  refine ⟨h.str, h.row, ?_, h.len, fun q => ?_, fun q => ?_, fun g hg q => ?_, fun g q => ?_⟩
  · obtain ⟨D, ho, hs, hR⟩ := h.rdy
    refine ⟨D, ho, fun es clock hb x hx g hg q => ?_, hR⟩
    rcases hn g q with q | ⟨_, q⟩
    · exact hs es clock hb x hx g hg q
    · exact q (.inr (.inr (.inr ⟨es, clock, hb, x, hx, hg⟩)))
  · rcases hn S q with q | ⟨_, q⟩
    · exact h.noS q
    · exact q (.inl rfl)
  · rcases hn b q with q | ⟨_, q⟩
    · exact h.nob q
    · exact q (.inr (.inl rfl))
  · rcases hn g q with q | ⟨_, q⟩
    · exact h.nov g hg q
    · exact q (.inr (.inr (.inl hg)))
  · rcases hn g q with q | ⟨q, _⟩
    · exact h.nos g q
    · exact q
/-- A block that was just made is none of the heap's. -/
theorem Hp.made {No : Nat → Prop} {w : World} {S b c : Nat} {vb : Value} {s : St} (h : Hp No w S b c vb s) (o : Obj) : Hp (fun g => No g ∨ g = w.heap.size) (w.alloc o) S b c vb s := by
  have lS : S < w.heap.size := (Array.getElem?_eq_some_iff.1 h.str).1
  obtain ⟨es, clock, hb⟩ := h.rdy.block
  have lb : b < w.heap.size := (Array.getElem?_eq_some_iff.1 hb).1
  have hr : Rdy (fun g => No g ∨ g = w.heap.size) w b c s.R := h.rdy.reno (fun g q => q.imp id (fun q => by omega))
  refine ⟨((World.grownBy_alloc w o none).block S lS (by simp)).trans h.str, h.row.alloc o, hr.alloc o, h.len, fun q => ?_, fun q => ?_, fun g hg q => ?_, fun g q => ?_⟩
  · rcases q with q | q
    · exact h.noS q
    · omega
  · rcases q with q | q
    · exact h.nob q
    · omega
  · rcases q with q | q
    · exact h.nov g hg q
    · have := (h.row.lt g hg).2; omega
  · rcases q with q | q
    · have := h.nos g q; simp; omega
    · simp; omega
theorem Hp.more {No : Nat → Prop} {w : World} {S b c c' : Nat} {vb : Value} {s : St} (h : Hp No w S b c vb s) (hc : c ≤ c') : Hp No w S b c' vb s := ⟨h.str, h.row, h.rdy.more hc, Nat.le_trans h.len hc, h.noS, h.nob, h.nov, h.nos⟩
/-- Over whatever leaves all but No's as it was. -/
theorem Hp.keeps {No : Nat → Prop} {w w' : World} {S b c : Nat} {vb : Value} {s : St} (h : Hp No w S b c vb s) {g : Nat} (hg : w.grownBy w' (some g)) (hn : No g) : Hp No w' S b c vb s := by
  have lS : S < w.heap.size := (Array.getElem?_eq_some_iff.1 h.str).1
  have neS : some S ≠ some g := fun e => h.noS (by injection e with e; rw [e]; exact hn)
  have neb : some b ≠ some g := fun e => h.nob (by injection e with e; rw [e]; exact hn)
  obtain ⟨D, ho, hs, hR⟩ := h.rdy
  have hlt : b < w.heap.size := by obtain ⟨es, clock, q, _⟩ := ho; exact (Array.getElem?_eq_some_iff.1 q).1
  refine ⟨(hg.block S lS neS).trans h.str, h.row.kept hg (.inr fun e => h.nov g e hn), ⟨D, ho.kept hg neb (hs.rowsOff (fun j e => by cases e; exact hn)), hs.kept hg hlt neb, hR⟩, h.len, h.noS, h.nob, h.nov, fun g q => Nat.lt_of_lt_of_le (h.nos g q) hg.size⟩
theorem Hp.alloc {No : Nat → Prop} {w : World} {S b c : Nat} {vb : Value} {s : St} (h : Hp No w S b c vb s) (o : Obj) : Hp No (w.alloc o) S b c vb s := by
  have lS : S < w.heap.size := (Array.getElem?_eq_some_iff.1 h.str).1
  exact ⟨((World.grownBy_alloc w o none).block S lS (by simp)).trans h.str, h.row.alloc o, h.rdy.alloc o, h.len, h.noS, h.nob, h.nov, fun g q => by have := h.nos g q; simp; omega⟩
end Go.Proofs.YtpmmploedkbeoaaGreatDoor.H

/- The walks of the heap's small calls: New, Live, Laid, room, again, lay. -/
namespace Go.Proofs.YtpmmploedkbeoaaGreatDoor.H
open Go.RowKit

theorem cell_row {w : World} {g : Nat} {cs : Array Value} {t : TypeId} (h : w.heap[g]? = some (.cells cs t (0, 0))) (i : Nat) : w.cell? ⟨g, i, none⟩ = cs[i]? := by
  unfold World.cell?
  rw [h]
  simp
theorem free_row {w : World} {g : Nat} {cs : Array Value} {t : TypeId} (h : w.heap[g]? = some (.cells cs t (0, 0))) (i : Nat) : w.frozen? ⟨g, i, none⟩ = false := by
  unfold World.frozen?
  rw [h]
  simp
theorem retB {x b : Bool} (h : x = b) : Ending.returned (.bool b) = .returned (.bool x) := by rw [h]
theorem ret1 {a b : Int} (h : a = b) : Ending.returned (.int .i64 a) = .returned (.int .i64 b) := by rw [h]

section
variable {No : Nat → Prop} {w : World} {S b c : Nat} {vb : Value} {s : St}
theorem Hp.c0 (h : Hp No w S b c vb s) : w.cell? ⟨S, 0, none⟩ = some (.int .i64 s.lim) := cell_row h.str 0
theorem Hp.c1 (h : Hp No w S b c vb s) : w.cell? ⟨S, 1, none⟩ = some (.int .i64 s.live) := cell_row h.str 1
theorem Hp.c2 (h : Hp No w S b c vb s) : w.cell? ⟨S, 2, none⟩ = some (.int .i64 s.laid) := cell_row h.str 2
theorem Hp.c3 (h : Hp No w S b c vb s) : w.cell? ⟨S, 3, none⟩ = some vb := cell_row h.str 3
theorem Hp.c4 (h : Hp No w S b c vb s) : w.cell? ⟨S, 4, none⟩ = some (.map (some b)) := cell_row h.str 4
theorem Hp.fr (h : Hp No w S b c vb s) (i : Nat) : w.frozen? ⟨S, i, none⟩ = false := free_row h.str i
end

set_option maxHeartbeats 400000 in
theorem room_neg (w : World) (S : Nat) (n : Int) (h : n < 0) : Calls Tryz.prog 134 #[.pointer (some ⟨S, 0, none⟩), .int .i64 n] w fun e w' => e = .returned (.int .i64 1) ∧ w' = w := by
  go_enter Tryz.func134, Tryz.ntmps134
  go_wp2
  go_ret
  exact ⟨rfl, rfl⟩
set_option maxHeartbeats 400000 in
theorem room_pos (w : World) (S : Nat) (n x y : Int) (h : 0 ≤ n) (c0 : w.cell? ⟨S, 0, none⟩ = some (.int .i64 x)) (c1 : w.cell? ⟨S, 1, none⟩ = some (.int .i64 y)) (hx0 : 0 ≤ x) (hx1 : x ≤ 400000) (hy0 : 0 ≤ y) (hy1 : y ≤ x) :
    Calls Tryz.prog 134 #[.pointer (some ⟨S, 0, none⟩), .int .i64 n] w fun e w' => e = .returned (.int .i64 (if x - y < n then 10 else 0)) ∧ w' = w.drew := by
  by_cases hq : x - y < n
  · rw [if_pos hq]
    go_enter Tryz.func134, Tryz.ntmps134
    go_wp2
    go_region
    all_goals
      go_wp2
      go_ret
      exact ⟨rfl, rfl⟩
  · rw [if_neg hq]
    go_enter Tryz.func134, Tryz.ntmps134
    go_wp2
    go_region
    all_goals
      go_wp2
      go_ret
      exact ⟨rfl, rfl⟩

set_option maxHeartbeats 400000 in
theorem new_bad (w : World) (n : Int) (h : n < 0 ∨ 400000 < n) : Calls Tryz.prog 17 #[.int .i64 n] w fun e w' => e = .returned (.tuple #[.pointer none, .int .i64 1]) ∧ w' = w := by
  rcases h with h | h
  · go_enter Tryz.func17, Tryz.ntmps17
    go_wp2
    go_ret2
    exact ⟨rfl, rfl⟩
  · have h0 : ¬ n < 0 := by omega
    go_enter Tryz.func17, Tryz.ntmps17
    go_wp2
    go_ret2
    exact ⟨rfl, rfl⟩
set_option maxHeartbeats 400000 in
theorem new_walk (w : World) (n : Int) (h0 : 0 ≤ n) (h1 : n ≤ 400000) : Calls Tryz.prog 17 #[.int .i64 n] w fun e w' => e = .returned (.tuple #[.pointer (some ⟨w.heap.size + 1, 0, none⟩), .int .i64 0]) ∧
    w' = (w.alloc (.map #[] 0)).alloc (.cells #[.int .i64 n, .int .i64 0, .int .i64 0, .slice none 0 0, .map (some w.heap.size)] 71) := by
  have hmm := @run_makeMap Tryz.prog
  go_enter Tryz.func17, Tryz.ntmps17
  go_wp2
  go_ret2
  exact ⟨rfl, rfl⟩
end Go.Proofs.YtpmmploedkbeoaaGreatDoor.H

/- The walks of again and lay. -/
namespace Go.Proofs.YtpmmploedkbeoaaGreatDoor.H
open Go.RowKit

/-- R with another list at the key. -/
def upd (R : Int → List Int) (n : Int) (l : List Int) : Int → List Int := fun j => if j = n then l else R j
theorem slice_of {w : World} {base n size : Nat} {e : TypeId} {v : Value} {xs : List Value} (h : w.ownsRow base e size v n xs) : ∃ a cap, v = .slice a n cap ∧ n ≤ cap := by
  rcases h.2 with ⟨rfl, rfl⟩ | ⟨g, cap, cur, rfl, _, _, q, _⟩
  · exact ⟨_, _, rfl, Nat.le_refl _⟩
  · exact ⟨_, _, rfl, q⟩

set_option maxHeartbeats 400000 in
theorem again_none {No : Nat → Prop} {w : World} {S b c : Nat} {vb : Value} {s : St} (h : Hp No w S b c vb s) (hc : c ≤ 1000000) (n : Int) (h0 : 0 ≤ n) (h1 : n ≤ 400000) (hR : s.R n = []) :
    Calls Tryz.prog 135 #[.pointer (some ⟨S, 0, none⟩), .int .i64 n] w fun e w' => e = .returned (.int .i64 0) ∧ w' = w := by
  obtain ⟨v, hl, ho, _, _, _⟩ := h.rdy.look (by unfold maxLen; omega) n (wf_of (by omega) (by omega))
  rw [hR] at ho
  obtain ⟨a, cap, rfl, _⟩ := slice_of ho.1
  have c4 := h.c4
  clear ho h hR
  simp only [List.length_nil] at hl
  go_enter Tryz.func135, Tryz.ntmps135
  go_wp2
  go_ret
  exact ⟨rfl, rfl⟩

set_option maxRecDepth 20000 in
set_option maxHeartbeats 1000000 in
theorem again_some {No : Nat → Prop} {w : World} {S b c : Nat} {vb : Value} {s : St} (h : Hp No w S b c vb s) (hc : c ≤ 1000000) (n : Int) (h0 : 0 ≤ n) (h1 : n ≤ 400000) (zs : List Int) (x : Int) (hR : s.R n = zs ++ [x]) :
    Calls Tryz.prog 135 #[.pointer (some ⟨S, 0, none⟩), .int .i64 n] w fun e w' => e = .returned (.int .i64 x) ∧ Hp No w' S b (c + 1) vb { s with R := upd s.R n zs } ∧ Keep No w w' := by
  obtain ⟨v, hl, ho, hlen, hno, hback⟩ := h.rdy.look (by unfold maxLen; omega) n (wf_of (by omega) (by omega))
  rw [hR] at ho hlen
  obtain ⟨g, cap, rfl, hg0, hg1⟩ := ho.1.form (by simp)
  have hcap : zs.length + 1 ≤ cap := by
    obtain ⟨_, _, q, q2⟩ := slice_of ho.1
    injection q with _ _ q3
    subst q3
    simpa using q2
  have hl1 : (zs ++ [x]).length = zs.length + 1 := by simp
  have hv' : w.drew.ownsInts (b + 1) 3 .i64 (.slice (some ⟨g, 0, none⟩) zs.length cap) zs := by
    refine ⟨⟨by simp, .inr ?_⟩, fun z hz => ho.2 z (by simp [hz])⟩
    rcases ho.1.2 with ⟨q, _⟩ | ⟨g', cap', cur, q, q1, q2, q3, q4, q5, q6⟩
    · cases q
    · injection q with qa _ qc
      injection qa with qa
      injection qa with qa _ _
      subst qa qc
      refine ⟨g, cap, cur, rfl, q1, q2, by omega, q4, q5, ?_⟩
      have := congrArg (List.take zs.length) q6
      rw [List.take_take] at this
      simpa using this
  obtain ⟨w2, hu, hr2, hg2⟩ := hback w.drew (.slice (some ⟨g, 0, none⟩) zs.length cap) zs (gdrew w _) hv' (by rw [hl1] at hlen; omega) (.inl rfl) hno
  have hbg : some g ≠ some b := fun e => by injection e with e; omega
  have hx : w2.cell? ⟨g, zs.length, none⟩ = some (.int .i64 x) := by
    rw [hg2.cell_far ⟨g, zs.length, none⟩ hg1 hbg]
    have := ho.1.cells (g := g) rfl zs.length (.int .i64 x) (by simp)
    have e : (Addr.add ⟨g, 0, none⟩ zs.length) = ⟨g, zs.length, none⟩ := by
      by_cases hz : zs.length = 0
      · rw [hz]; rfl
      · simp [Addr.add, hz]
    rw [e] at this
    exact this
  have c4 := h.c4
  have lS : S < w.heap.size := (Array.getElem?_eq_some_iff.1 h.str).1
  have nSb : some S ≠ some b := fun e => by
    injection e with e
    obtain ⟨es, clock, hb⟩ := h.rdy.block
    have := h.str
    rw [e, hb] at this
    cases this
  have HF : Hid (Hp No w2 S b (c + 1) vb { s with R := upd s.R n zs } ∧ Keep No w w2) := by
    refine ⟨⟨(hg2.block S lS nSb).trans h.str, ?_, hr2, Nat.le_succ_of_le h.len, h.noS, h.nob, h.nov, fun q r => Nat.lt_of_lt_of_le (h.nos q r) hg2.size⟩, (Keep.refl No w).drew.grown hg2 (fun q e => by cases e; exact h.nob)⟩
    refine World.ownsRow.kept (World.ownsRow.drew h.row) hg2 ?_
    cases q : vb.ownBlock with
    | none => exact .inl rfl
    | some y =>
      right
      intro e
      injection e with e
      subst e
      obtain ⟨es, clock, hb⟩ := h.rdy.block
      rcases h.row.2 with ⟨e1, _⟩ | ⟨g', cap', cur, e1, _, hh, _⟩
      · rw [e1] at q; cases q
      · rw [e1] at q
        injection q with q
        subst q
        rw [hb] at hh; cases hh
  rw [hl1] at hl
  rw [hl1] at hlen
  clear ho hv' hback hg2 hr2 h hR hl1 hno
  generalize zs.length = L at *
  have hL : (L : Int) ≤ (cap : Int) := by omega
  have hL2 : (L : Int) ≤ 1000000 := by omega
  have hm : IntKind.i64.wrap (((L + 1 : Nat) : Int) - 1) = (L : Int) := by rw [IntKind.wrap_i64]; omega
  have hz : (((L + 1 : Nat) : Int) == 0) = false := by simp; omega
  clear hlen
  go_enter Tryz.func135, Tryz.ntmps135
  go_wp2
  go_region
  all_goals
    go_wp2
    go_ret
    exact ⟨rfl, HF.out⟩

theorem info72 : (Tryz.prog.info? 234).map (fun i => (i.zero, i.size, i.bytes)) = some (some (.agg #[.int .i64 0, .bool false]), 2, 16) := by kernel_rfl

/-- The heap's own blocks are apart by what they hold. -/
theorem Hp.apart {No : Nat → Prop} {w : World} {S b c : Nat} {vb : Value} {s : St} (h : Hp No w S b c vb s) : S ≠ b ∧ vb.ownBlock ≠ some S ∧ vb.ownBlock ≠ some b ∧ (∀ g, vb.ownBlock = some g → ∃ cur, w.heap[g]? = some (.cells cur 234 (0, 0))) ∧ S < w.heap.size ∧ b < w.heap.size := by
  obtain ⟨es, clock, hb⟩ := h.rdy.block
  have hv : ∀ g, vb.ownBlock = some g → ∃ cur, w.heap[g]? = some (.cells cur 234 (0, 0)) := fun g e => by
    rcases h.row.2 with ⟨e1, _⟩ | ⟨g', cap', cur, e1, _, hh, _⟩
    · rw [e1] at e; cases e
    · rw [e1] at e
      injection e with e
      subst e
      exact ⟨cur, hh⟩
  refine ⟨fun e => ?_, fun e => ?_, fun e => ?_, hv, (Array.getElem?_eq_some_iff.1 h.str).1, (Array.getElem?_eq_some_iff.1 hb).1⟩
  · have := h.str
    rw [e, hb] at this
    cases this
  · obtain ⟨cur, q⟩ := hv S e
    rw [h.str] at q
    injection q with q
    injection q with _ q _
    cases q
  · obtain ⟨cur, q⟩ := hv b e
    rw [hb] at q
    cases q
/-- What lay leaves. -/
theorem Hp.laid {No : Nat → Prop} {w w1 : World} {S b c : Nat} {vb v' : Value} {s : St} (h : Hp No w S b c vb s) (n : Int) (o : Obj) (hg : (w.alloc o).grownBy w1 vb.ownBlock) (g cap : Nat) (hv : v' = .slice (some ⟨g, 0, none⟩) (s.bl.length + 1) cap)
    (hown : w1.ownsRow 0 234 2 v' (s.bl.length + 1) (bcells s.bl ++ [.int .i64 n, .bool false])) (hat : vb.ownBlock = some g ∨ g = w.heap.size + 1) :
    Hp No ((w1.setCell ⟨S, 3, none⟩ v').setCell ⟨S, 2, none⟩ (.int .i64 (s.laid + n))) S b (c + 1) v' { s with laid := s.laid + n, bl := s.bl ++ [(n, false)] } ∧ Keep No w ((w1.setCell ⟨S, 3, none⟩ v').setCell ⟨S, 2, none⟩ (.int .i64 (s.laid + n))) := by
  obtain ⟨a1, a2, a3, a4, lS, lb⟩ := h.apart
  have hs := hg.size
  have hal : (w.alloc o).heap.size = w.heap.size + 1 := by simp
  rw [hal] at hs
  have s1 : w1.heap[S]? = some (.cells #[.int .i64 s.lim, .int .i64 s.live, .int .i64 s.laid, vb, .map (some b)] 71 (0, 0)) :=
    (hg.block S (by omega) (fun e => a2 e.symm)).trans (((World.grownBy_alloc w o none).block S lS (by simp)).trans h.str)
  have gS : v'.ownBlock ≠ some S := fun e => by
    rcases hown.2 with ⟨e1, _⟩ | ⟨g', cap', cur, e1, _, hh, _⟩
    · rw [hv] at e1; cases e1
    · rw [e1] at e
      injection e with e
      subst e
      rw [s1] at hh
      injection hh with hh
      injection hh with _ hh _
      cases hh
  have gt : ∀ q, some S = some q → b ≠ q ∧ ∀ cs fr, w1.heap[q]? ≠ some (.cells cs 3 fr) := fun q e => by
    injection e with e
    subst e
    refine ⟨Ne.symm a1, fun cs fr q => ?_⟩
    rw [s1] at q
    injection q with q
    injection q with _ q _
    cases q
  have r1 : Rdy No w1 b c s.R := (h.rdy.alloc o).kept hg (fun q e => by
    refine ⟨fun e2 => a3 (by rw [e, e2]), fun cs fr q2 => ?_⟩
    obtain ⟨cur, q3⟩ := a4 q e
    have := (h.row.lt q e).2
    rw [(World.grownBy_alloc w o none).block q this (by simp), q3] at q2
    injection q2 with q2
    injection q2 with _ q2 _
    cases q2)
  have s2 := heap_setCell_same w1 S 3 _ 71 v' s1
  have r2 : Rdy No (w1.setCell ⟨S, 3, none⟩ v') b c s.R := r1.kept (gset w1 S 3 v') gt
  have r3 : Rdy No ((w1.setCell ⟨S, 3, none⟩ v').setCell ⟨S, 2, none⟩ (.int .i64 (s.laid + n))) b c s.R := r2.kept (gset _ S 2 _) (fun q e => ⟨(gt q e).1, fun cs fr q2 => by
    injection e with e
    subst e
    rw [s2] at q2
    injection q2 with q2
    injection q2 with _ q2 _
    cases q2⟩)
  have k1 : Keep No w w1 := ((Keep.refl No w).alloc o).grown hg h.nov
  refine ⟨⟨?_, ?_, r3.more (Nat.le_succ _), by have := h.len; simp; omega, h.noS, h.nob, fun q e => ?_, fun q r => ?_⟩, (k1.grown (gset w1 S 3 v') (fun q e => by cases e; exact h.noS)).grown (gset _ S 2 _) (fun q e => by cases e; exact h.noS)⟩
  · exact heap_setCell_same _ S 2 _ 71 _ s2
  · have e1 : (s.bl ++ [(n, false)]).length = s.bl.length + 1 := by simp
    show World.ownsRow _ 0 234 2 v' (s.bl ++ [(n, false)]).length (bcells (s.bl ++ [(n, false)]))
    rw [e1, bcells_app]
    exact (hown.kept (gset w1 S 3 v') (.inr gS)).kept (gset _ S 2 _) (.inr gS)
  · rw [hv] at e
    injection e with e
    subst e
    rcases hat with q | q
    · exact h.nov _ q
    · intro r
      have := h.nos _ r
      simp only at this
      omega
  · have := h.nos q r
    simp
    omega

set_option maxRecDepth 20000 in
set_option maxHeartbeats 1000000 in
theorem lay_any {No : Nat → Prop} {w : World} {S b c : Nat} {vb : Value} {s : St} (h : Hp No w S b c vb s) (hc : c ≤ 1000000) (n : Int) (h0 : 0 ≤ n) (h1 : n ≤ 400000) (hl0 : 0 ≤ s.laid) (hl1 : s.laid ≤ 1000000000000) :
    Calls Tryz.prog 136 #[.pointer (some ⟨S, 0, none⟩), .int .i64 n] w fun e w' => e = .returned (.int .i64 ((s.bl.length : Int) + 1)) ∧ (∃ v', Hp No w' S b (c + 1) v' { s with laid := s.laid + n, bl := s.bl ++ [(n, false)] }) ∧ Keep No w w' := by
  obtain ⟨i0, hi0, hz0, hz1, hz2⟩ := info_parts info72
  have HL : Hid (∀ w1 o g cap, (w.alloc o).grownBy w1 vb.ownBlock → w1.ownsRow 0 234 2 (.slice (some ⟨g, 0, none⟩) (s.bl.length + 1) cap) (s.bl.length + 1) (bcells s.bl ++ [.int .i64 n, .bool false]) → (vb.ownBlock = some g ∨ g = w.heap.size + 1) → _) := fun w1 o g cap hg ho hat => h.laid (v' := .slice (some ⟨g, 0, none⟩) (s.bl.length + 1) cap) n o hg g cap rfl ho hat
  have c3 := h.c3
  have c2 := h.c2
  have f3 := h.fr 3
  have f2 := h.fr 2
  obtain ⟨a1, a2, a3, a4, lS, lb⟩ := h.apart
  have hrow := h.row
  have hlen := h.len
  obtain ⟨av, cv, rfl, hcv⟩ := slice_of hrow
  have HR : Hid (w.ownsRow 0 234 2 (.slice av s.bl.length cv) s.bl.length (bcells s.bl)) := hrow
  have HC : Hid (∀ w1 o i, (w.alloc o).grownBy w1 (Value.slice av s.bl.length cv).ownBlock → w1.cell? ⟨S, i, none⟩ = w.cell? ⟨S, i, none⟩ ∧ w1.frozen? ⟨S, i, none⟩ = w.frozen? ⟨S, i, none⟩) := fun w1 o i hg =>
    ⟨(hg.cell_far ⟨S, i, none⟩ (by simp; omega) (fun e => a2 e.symm)).trans ((World.grownBy_alloc w o none).cell_far ⟨S, i, none⟩ lS (by simp)), (hg.frozen_far ⟨S, i, none⟩ (by simp; omega) (fun e => a2 e.symm)).trans ((World.grownBy_alloc w o none).frozen_far ⟨S, i, none⟩ lS (by simp))⟩
  clear h hrow a4
  generalize bcells s.bl = bc at *
  generalize s.bl.length = m at *
  go_enter Tryz.func136, Tryz.ntmps136
  go_wp2_with (at_builtin; refine wpList_append_lies _ rfl _ _ 69 rfl 0 234 i0 _ 2 16 Tryz.underlying69 hi0 hz0 hz1 hz2 rfl (by omega) (.slice av m cv) m bc rfl (World.ownsRow.alloc HR.out _) ⟨w.heap.size, 0, none⟩ 1 1 [.int .i64 n, .bool false] rfl rfl (World.news_of_block (cs := #[.int .i64 n, .bool false]) (t := 234) (fr := (0, 0)) (heap_alloc_new w _)) (by simp [Value.oneCell']) (by omega) (by unfold maxLen; omega) (by omega) (Nat.zero_le _) (w.heap.size + 1) (by simp) ?_; intro g cap w1 hown hgrow hat hlt; have d3 := (HC.out w1 _ 3 hgrow).1.trans c3; have e3 := (HC.out w1 _ 3 hgrow).2.trans f3; have d2 := (HC.out w1 _ 2 hgrow).1.trans c2; have e2 := (HC.out w1 _ 2 hgrow).2.trans f2)
  go_ret
  have U := HL.out w1 _ g cap hgrow hown hat
  exact ⟨ret1 (by omega), ⟨_, U.1⟩, U.2⟩

end Go.Proofs.YtpmmploedkbeoaaGreatDoor.H

/- The walks of Take and Spend. -/
namespace Go.Proofs.YtpmmploedkbeoaaGreatDoor.H
open Go.RowKit

theorem ret2 {a b c d : Int} (h : a = b) (h2 : c = d) : Ending.returned (.tuple #[.int .i64 a, .int .i64 c]) = .returned (.tuple #[.int .i64 b, .int .i64 d]) := by rw [h, h2]

def setT (l : List (Int × Bool)) (i : Nat) (t : Bool) : List (Int × Bool) := l.set i ((l.getD i (0, false)).1, t)
theorem setT_len (l : List (Int × Bool)) (i : Nat) (t : Bool) : (setT l i t).length = l.length := by simp [setT]
theorem setT_eq (l : List (Int × Bool)) (i : Nat) (h : i < l.length) (t : Bool) : setT l i t = l.set i ((l[i]'h).1, t) := by
  unfold setT
  rw [List.getD, List.getElem?_eq_getElem h]
  rfl
theorem setT_last (l : List (Int × Bool)) (n : Int) (t u : Bool) : setT (l ++ [(n, t)]) l.length u = l ++ [(n, u)] := by
  rw [setT_eq _ _ (by simp)]
  simp

theorem Hp.setTaken {No : Nat → Prop} {w : World} {S b c g cap : Nat} {s : St} (h : Hp No w S b c (.slice (some ⟨g, 0, none⟩) s.bl.length cap) s) (i : Nat) (hi : i < s.bl.length) (t : Bool) :
    Hp No (w.setCell ⟨g, i * 2 + 1, none⟩ (.bool t)) S b c (.slice (some ⟨g, 0, none⟩) s.bl.length cap) { s with bl := setT s.bl i t } := by
  obtain ⟨a1, a2, a3, a4, lS, lb⟩ := h.apart
  have hgs := gset w g (i * 2 + 1) (.bool t)
  obtain ⟨cur0, hc0⟩ := a4 g rfl
  refine ⟨(hgs.block S lS (fun e => a2 e.symm)).trans h.str, ?_, h.rdy.kept hgs (fun q e => ?_), by show (setT s.bl i t).length ≤ c; rw [setT_len]; exact h.len, h.noS, h.nob, h.nov, fun q r => by have := h.nos q r; simpa using this⟩
  · show World.ownsRow _ 0 234 2 _ (setT s.bl i t).length (bcells (setT s.bl i t))
    rw [setT_len]
    refine ⟨by rw [bcells_len, setT_len], ?_⟩
    rcases h.row.2 with ⟨q, _⟩ | ⟨g', cap', cur, q, q1, q2, q3, q4, q5, q6⟩
    · cases q
    · injection q with qa _ qc
      injection qa with qa
      injection qa with qa _ _
      subst qa qc
      refine .inr ⟨g, cap, cur.setIfInBounds (i * 2 + 1) (.bool t), rfl, q1, heap_setCell_same w g _ cur 234 _ q2, q3, q4, by simpa using q5, ?_⟩
      rw [setT_eq _ _ hi, ← bcells_set _ _ hi, ← q6]
      simp only [Array.toList_setIfInBounds, List.take_set]
  · injection e with e
    subst e
    refine ⟨fun e2 => a3 (by rw [e2]; rfl), fun cs fr q => ?_⟩
    rw [hc0] at q
    injection q with q
    injection q with _ q _
    cases q
theorem Hp.setLive {No : Nat → Prop} {w : World} {S b c : Nat} {vb : Value} {s : St} (h : Hp No w S b c vb s) (x : Int) : Hp No (w.setCell ⟨S, 1, none⟩ (.int .i64 x)) S b c vb { s with live := x } := by
  obtain ⟨a1, a2, a3, a4, lS, lb⟩ := h.apart
  have hgs := gset w S 1 (.int .i64 x)
  refine ⟨heap_setCell_same w S 1 _ 71 _ h.str, h.row.kept hgs (.inr a2), h.rdy.kept hgs (fun q e => ?_), h.len, h.noS, h.nob, h.nov, fun q r => by have := h.nos q r; simpa using this⟩
  injection e with e
  subst e
  refine ⟨Ne.symm a1, fun cs fr q => ?_⟩
  rw [h.str] at q
  injection q with q
  injection q with _ q _
  cases q

/-- What holds of each heap that was made by New and turned by its calls. -/
structure Ok (s : St) : Prop where
  l0 : 0 ≤ s.live
  l1 : s.live ≤ s.lim
  l2 : s.lim ≤ 400000
  d0 : 0 ≤ s.laid
  d1 : s.laid ≤ s.bl.length * 400000
  ids : ∀ n x, x ∈ s.R n → ∃ k : Nat, x = (k : Int) + 1 ∧ ∃ h : k < s.bl.length, s.bl[k]'h = (n, false)
  nodup : ∀ n, (s.R n).Nodup
  cells : ∀ k (h : k < s.bl.length), 1 ≤ (s.bl[k]'h).1 ∧ (s.bl[k]'h).1 ≤ 400000

def takeSt (s : St) (n : Int) : St :=
  if n < 0 then s else if s.lim - s.live < n then s else if n = 0 then s
  else if s.R n = [] then { s with laid := s.laid + n, live := s.live + n, bl := s.bl ++ [(n, true)] }
  else { s with live := s.live + n, R := upd s.R n (s.R n).dropLast, bl := setT s.bl (((s.R n).getLast?.getD 0).toNat - 1) true }
def takeId (s : St) (n : Int) : Int :=
  if n < 0 then 0 else if s.lim - s.live < n then 0 else if n = 0 then 0
  else if s.R n = [] then (s.bl.length : Int) + 1 else (s.R n).getLast?.getD 0
def takeE (s : St) (n : Int) : Int := if n < 0 then 1 else if s.lim - s.live < n then 10 else 0

theorem Hp.cellT {No : Nat → Prop} {w : World} {S b c g cap : Nat} {s : St} (h : Hp No w S b c (.slice (some ⟨g, 0, none⟩) s.bl.length cap) s) (i : Nat) (hi : i < s.bl.length) :
    w.cell? ⟨g, i * 2 + 1, none⟩ = some (.bool (s.bl[i]'hi).2) ∧ w.cell? ⟨g, i * 2, none⟩ = some (.int .i64 (s.bl[i]'hi).1) ∧ (∀ j, w.frozen? ⟨g, j, none⟩ = false) ∧ s.bl.length ≤ cap := by
  obtain ⟨a1, a2, a3, a4, lS, lb⟩ := h.apart
  obtain ⟨cur0, hc0⟩ := a4 g rfl
  have hb := bcells_get s.bl i hi
  refine ⟨?_, ?_, fun j => free_row hc0 j, ?_⟩
  · rw [h.row.cellAt (i * 2 + 1) (by omega)]; exact hb.2
  · rw [h.row.cellAt (i * 2) (by omega)]; exact hb.1
  · obtain ⟨_, _, q, q2⟩ := slice_of h.row
    injection q with _ _ q3
    omega

set_option maxHeartbeats 400000 in
theorem take_bad {No : Nat → Prop} {w : World} {S b c : Nat} {vb : Value} {s : St} (h : Hp No w S b c vb s) (ok : Ok s) (n : Int) (hn : n < 0 ∨ s.lim - s.live < n ∨ n = 0) :
    Calls Tryz.prog 91 #[.pointer (some ⟨S, 0, none⟩), .int .i64 n] w fun e w' => e = .returned (.tuple #[.int .i64 0, .int .i64 (takeE s n)]) ∧ (w' = w ∨ w' = w.drew) := by
  have hl0 := ok.l0
  have hl1 := ok.l1
  have hl2 := ok.l2
  by_cases h0 : n < 0
  · have e : takeE s n = 1 := by unfold takeE; rw [if_pos h0]
    rw [e]
    have C := room_neg w S n h0
    clear e h ok hn
    go_enter Tryz.func91, Tryz.ntmps91
    go_wp2_with (go_at_call 134; refine C.mono ?_; rintro e w' ⟨rfl, rfl⟩)
    go_ret2
    exact ⟨rfl, .inl rfl⟩
  · have C := room_pos w S n s.lim s.live (by omega) h.c0 h.c1 (by omega) hl2 hl0 hl1
    by_cases h1 : s.lim - s.live < n
    · have e : takeE s n = 10 := by unfold takeE; rw [if_neg h0, if_pos h1]
      rw [e]
      rw [if_pos h1] at C
      clear e h ok hn
      go_enter Tryz.func91, Tryz.ntmps91
      go_wp2_with (go_at_call 134; refine C.mono ?_; rintro e w' ⟨rfl, rfl⟩)
      go_ret2
      exact ⟨rfl, .inr rfl⟩
    · have e : takeE s n = 0 := by unfold takeE; rw [if_neg h0, if_neg h1]
      rw [e]
      rw [if_neg h1] at C
      obtain rfl : n = 0 := by omega
      clear e h ok hn
      go_enter Tryz.func91, Tryz.ntmps91
      go_wp2_with (go_at_call 134; refine C.mono ?_; rintro e w' ⟨rfl, rfl⟩)
      go_ret2
      exact ⟨rfl, .inr rfl⟩

theorem take_new {s : St} {n : Int} (h0 : 1 ≤ n) (h1 : n ≤ s.lim - s.live) (hR : s.R n = []) : takeSt s n = { s with laid := s.laid + n, live := s.live + n, bl := s.bl ++ [(n, true)] } ∧ takeId s n = (s.bl.length : Int) + 1 ∧ takeE s n = 0 := by
  refine ⟨?_, ?_, ?_⟩
  · unfold takeSt; rw [if_neg (by omega), if_neg (by omega), if_neg (by omega), if_pos hR]
  · unfold takeId; rw [if_neg (by omega), if_neg (by omega), if_neg (by omega), if_pos hR]
  · unfold takeE; rw [if_neg (by omega), if_neg (by omega)]
theorem take_old {s : St} {n : Int} (h0 : 1 ≤ n) (h1 : n ≤ s.lim - s.live) {zs : List Int} {k : Nat} (hR : s.R n = zs ++ [(k : Int) + 1]) : takeSt s n = { s with live := s.live + n, R := upd s.R n zs, bl := setT s.bl k true } ∧ takeId s n = (k : Int) + 1 ∧ takeE s n = 0 := by
  have hne : s.R n ≠ [] := by rw [hR]; simp
  refine ⟨?_, ?_, ?_⟩
  · unfold takeSt; rw [if_neg (by omega), if_neg (by omega), if_neg (by omega), if_neg hne, hR]
    simp only [List.dropLast_concat, List.getLast?_concat, Option.getD_some]
    rw [show ((k : Int) + 1).toNat - 1 = k by omega]
  · unfold takeId; rw [if_neg (by omega), if_neg (by omega), if_neg (by omega), if_neg hne, hR]
    simp
  · unfold takeE; rw [if_neg (by omega), if_neg (by omega)]
theorem Hp.form {No : Nat → Prop} {w : World} {S b c : Nat} {vb : Value} {s : St} (h : Hp No w S b c vb s) (hl : 0 < s.bl.length) : ∃ g cap, vb = .slice (some ⟨g, 0, none⟩) s.bl.length cap := by
  obtain ⟨g, cap, q, _⟩ := h.row.form hl
  exact ⟨g, cap, q⟩
/-- Behind Take's last two stores. -/
theorem Hp.taken {No : Nat → Prop} {w : World} {S b c g cap : Nat} {s : St} (h : Hp No w S b c (.slice (some ⟨g, 0, none⟩) s.bl.length cap) s) (i : Nat) (hi : i < s.bl.length) (x : Int) :
    Hp No ((w.setCell ⟨g, i * 2 + 1, none⟩ (.bool true)).setCell ⟨S, 1, none⟩ (.int .i64 x)) S b c (.slice (some ⟨g, 0, none⟩) s.bl.length cap) { s with live := x, bl := setT s.bl i true } ∧ Keep No w ((w.setCell ⟨g, i * 2 + 1, none⟩ (.bool true)).setCell ⟨S, 1, none⟩ (.int .i64 x)) :=
  ⟨(h.setTaken i hi true).setLive x, ((Keep.refl No w).grown (gset w g _ _) (fun q e => by cases e; exact h.nov g rfl)).grown (gset _ S 1 _) (fun q e => by cases e; exact h.noS)⟩

set_option maxRecDepth 20000 in
set_option maxHeartbeats 1000000 in
theorem take_good {No : Nat → Prop} {w : World} {S b c : Nat} {vb : Value} {s : St} (h : Hp No w S b c vb s) (hc : c ≤ 1000000) (ok : Ok s) (n : Int) (h0 : 1 ≤ n) (h1 : n ≤ s.lim - s.live) :
    Calls Tryz.prog 91 #[.pointer (some ⟨S, 0, none⟩), .int .i64 n] w fun e w' => e = .returned (.tuple #[.int .i64 (takeId s n), .int .i64 0]) ∧ (∃ v', Hp No w' S b (c + 1) v' (takeSt s n)) ∧ Keep No w w' := by
  have hl0 := ok.l0
  have hl1 := ok.l1
  have hl2 := ok.l2
  have hd0 := ok.d0
  have hd1 := ok.d1
  have hlen := h.len
  have hd2 : s.laid ≤ 1000000000000 := by
    have : (s.bl.length : Int) * 400000 ≤ 1000000 * 400000 := Int.mul_le_mul_of_nonneg_right (by omega) (by omega)
    omega
  have C := room_pos w S n s.lim s.live (by omega) h.c0 h.c1 (by omega) hl2 hl0 hl1
  rw [if_neg (by omega)] at C
  rcases List.eq_nil_or_concat (s.R n) with hR | ⟨zs, x, hR⟩
  · obtain ⟨e1, e2, _⟩ := take_new h0 h1 hR
    rw [e1, e2]
    have C1 := again_none h.drew hc n (by omega) (by omega) hR
    have C2 := lay_any h.drew hc n (by omega) (by omega) hd0 hd2
    have hm : s.bl.length ≤ 1000000 := by omega
    have h2 : n ≤ 400000 := by omega
    clear e1 e2 ok h hlen hd1
    go_enter Tryz.func91, Tryz.ntmps91
    go_wp2_with fail
    refine C.mono ?_
    rintro e w' ⟨rfl, rfl⟩
    go_wp2_with fail
    refine C1.mono ?_
    rintro e w' ⟨rfl, rfl⟩
    go_wp2_with fail
    refine C2.mono ?_
    rintro e w2 ⟨rfl, ⟨v2, hp2⟩, k2⟩
    clear C C1 C2
    obtain ⟨g, cap, rfl⟩ := hp2.form (by simp)
    have HT : Hid _ := hp2.taken s.bl.length (by simp) (s.live + n)
    have ct := hp2.cellT s.bl.length (by simp)
    have c3 := hp2.c3
    have c1 := hp2.c1
    have f1 := hp2.fr 1
    have ns := hp2.apart.2.1
    simp only [List.length_append, List.length_cons, List.length_nil, Nat.zero_add] at c3 c1 ct HT ns
    obtain ⟨d1, _, f2, hcap⟩ := ct
    have f3 := f2 (s.bl.length * 2 + 1)
    have hgS : g ≠ S := fun e => ns (by rw [e]; rfl)
    have HE : Hid (setT (s.bl ++ [(n, false)]) s.bl.length true = s.bl ++ [(n, true)]) := setT_last _ _ _ _
    generalize (s.bl ++ [(n, false)])[s.bl.length]'(by simp) = pr at *
    have K2 : Hid _ := k2
    clear hp2 f2 ns k2 hR
    obtain ⟨m, hm2⟩ : ∃ m, s.bl.length = m := ⟨_, rfl⟩
    rw [hm2] at hm c3 d1 f3 HT hcap HE ⊢
    have HM : Hid _ := hm2
    clear hm2
    go_wp2_with fail
    go_ret2
    have U := HT.out
    rw [HE.out] at U
    exact ⟨ret2 (by rw [HM.out]) rfl, ⟨_, U.1⟩, (Keep.refl No w).drew.trans (K2.out.trans U.2)⟩
  · rw [List.concat_eq_append] at hR
    obtain ⟨k, rfl, hk, hbk⟩ := ok.ids n x (by rw [hR]; simp)
    obtain ⟨e1, e2, _⟩ := take_old h0 h1 hR
    rw [e1, e2]
    have C1 := again_some h.drew hc n (by omega) (by omega) zs _ hR
    have hm : s.bl.length ≤ 1000000 := by omega
    have h2 : n ≤ 400000 := by omega
    clear e1 e2 ok hlen hd1
    obtain ⟨g, cap, rfl⟩ := h.form (by omega)
    clear h
    go_enter Tryz.func91, Tryz.ntmps91
    go_wp2_with fail
    refine C.mono ?_
    rintro e w' ⟨rfl, rfl⟩
    go_wp2_with fail
    refine C1.mono ?_
    rintro e w2 ⟨rfl, hp2, k2⟩
    clear C C1
    have HT : Hid _ := Hp.taken (s := { s with R := upd s.R n zs }) hp2 k hk (s.live + n)
    have ct := Hp.cellT (s := { s with R := upd s.R n zs }) hp2 k hk
    have c3 := hp2.c3
    have c1 := hp2.c1
    have f1 := hp2.fr 1
    have ns := hp2.apart.2.1
    simp only at c3 c1 ct HT ns
    obtain ⟨d1, _, f2, hcap⟩ := ct
    have f3 := f2 (k * 2 + 1)
    have hgS : g ≠ S := fun e => ns (by rw [e]; rfl)
    generalize s.bl[k]'hk = pr at *
    have K2 : Hid _ := k2
    have hkm : (k : Int) < (s.bl.length : Int) := by omega
    have hz : (((k : Int) + 1) == 0) = false := by simp; omega
    clear hp2 f2 ns k2 hR
    generalize s.bl.length = m at *
    go_wp2_with fail
    go_ret2
    exact ⟨rfl, ⟨_, HT.out.1⟩, (Keep.refl No w).drew.trans (K2.out.trans HT.out.2)⟩

theorem take_any {No : Nat → Prop} {w : World} {S b c : Nat} {vb : Value} {s : St} (h : Hp No w S b c vb s) (hc : c ≤ 1000000) (ok : Ok s) (n : Int) :
    Calls Tryz.prog 91 #[.pointer (some ⟨S, 0, none⟩), .int .i64 n] w fun e w' => e = .returned (.tuple #[.int .i64 (takeId s n), .int .i64 (takeE s n)]) ∧ (∃ v', Hp No w' S b (c + 1) v' (takeSt s n)) ∧ Keep No w w' := by
  by_cases hn : n < 0 ∨ s.lim - s.live < n ∨ n = 0
  · have e1 : takeSt s n = s ∧ takeId s n = 0 := by
      unfold takeSt takeId
      by_cases h0 : n < 0
      · rw [if_pos h0, if_pos h0]; exact ⟨rfl, rfl⟩
      · by_cases h1 : s.lim - s.live < n
        · rw [if_neg h0, if_neg h0, if_pos h1, if_pos h1]; exact ⟨rfl, rfl⟩
        · have h2 : n = 0 := by omega
          rw [if_neg h0, if_neg h0, if_neg h1, if_neg h1, if_pos h2, if_pos h2]; exact ⟨rfl, rfl⟩
    rw [e1.1, e1.2]
    refine (take_bad h ok n hn).mono ?_
    rintro e w' ⟨rfl, rfl | rfl⟩
    · exact ⟨rfl, ⟨_, h.more (Nat.le_succ _)⟩, Keep.refl _ _⟩
    · exact ⟨rfl, ⟨_, h.drew.more (Nat.le_succ _)⟩, (Keep.refl _ _).drew⟩
  · have e : takeE s n = 0 := by unfold takeE; rw [if_neg (by omega), if_neg (by omega)]
    rw [e]
    exact take_good h hc ok n (by omega) (by omega)

/-! ### Spend -/
def spendSt (s : St) (n : Int) : St := if n < 0 then s else if s.lim - s.live < n then s else { s with live := s.live + n }
end Go.Proofs.YtpmmploedkbeoaaGreatDoor.H

/- The walk of Len. -/
import Derived.Test.YtbgbhogcjaodkaaCg02
import Derived.Test.YtbgbhogcjaodkaaCg00
import Derived.RangeFuncBox
namespace Go.Proofs.Ytbgbhogcjaodkaa
open Go.RowKit Go.Shelf
attribute [local go_sem] Oper.semAt_some

/-- What Len answers of the runes between two places. -/
def lenA (l : List Rn) : Int × Int := if badOf l < 0 then ((l.length : Int), 0) else (0, badOf l + 1)
def lenR (s : ByteArray) (i j : Int) : Int × Int × Int :=
  if mt s.size i < 1 ∨ (s.size : Int) + 1 < mt s.size i ∨ (s.size : Int) < mt s.size j then (0, 0, 1)
  else ((lenA (bw s ((mt s.size i).toNat - 1) (mt s.size j))).1, (lenA (bw s ((mt s.size i).toNat - 1) (mt s.size j))).2, 0)
/-- The boxes of Len: the text, three answers, the count. -/
theorem isBad_at (s : ByteArray) (x : Fin s.size) : isBad (rA s x) = bdB s x.1 := by
  unfold isBad rA bdB
  simp
theorem badOf_app (l r : List Rn) (h : 0 ≤ badOf l) : badOf (l ++ r) = badOf l := by
  unfold badOf at h ⊢
  rw [List.find?_append]
  cases hf : l.find? isBad with
  | none => rw [hf] at h; simp at h
  | some x => rfl
structure La (W : World) (S : Nat) (s : ByteArray) (x y z : Int) : Prop where
  bs : Boxed W S 9 (.string s)
  bx : Boxed W (S + 1) 3 (.int .i64 x)
  bY : Boxed W (S + 2) 3 (.int .i64 y)
  bz : Boxed W (S + 3) 22 (.int .i64 z)
theorem La.setx {W : World} {S : Nat} {s : ByteArray} {x y z : Int} (h : La W S s x y z) (n' : Int) : La (W.setCell ⟨S + 1, 0, none⟩ (.int .i64 n')) S s n' y z :=
  ⟨h.bs.other (by omega) _, h.bx.set _, h.bY.other (by omega) _, h.bz.other (by omega) _⟩
theorem La.sety {W : World} {S : Nat} {s : ByteArray} {x y z : Int} (h : La W S s x y z) (n' : Int) : La (W.setCell ⟨S + 2, 0, none⟩ (.int .i64 n')) S s x n' z :=
  ⟨h.bs.other (by omega) _, h.bx.other (by omega) _, h.bY.set _, h.bz.other (by omega) _⟩
theorem La.setz {W : World} {S : Nat} {s : ByteArray} {x y z : Int} (h : La W S s x y z) (n' : Int) : La (W.setCell ⟨S + 3, 0, none⟩ (.int .i64 n')) S s x y n' :=
  ⟨h.bs.other (by omega) _, h.bx.other (by omega) _, h.bY.other (by omega) _, h.bz.set _⟩
theorem boxed_keep {No : Nat → Prop} {W W' : World} {B : Nat} {t : TypeId} {v : Value} (h : Boxed W B t v) (k : Keep No W W') (hB : No B) : Boxed W' B t v := (k.block B h.lt hB).trans h
theorem La.kept {No : Nat → Prop} {W W' : World} {S : Nat} {s : ByteArray} {x y z : Int} (h : La W S s x y z) (k : Keep No W W') (hn : No S ∧ No (S + 1) ∧ No (S + 2) ∧ No (S + 3)) : La W' S s x y z :=
  ⟨boxed_keep h.bs k hn.1, boxed_keep h.bx k hn.2.1, boxed_keep h.bY k hn.2.2.1, boxed_keep h.bz k hn.2.2.2⟩
theorem below_set {w W : World} {p : Addr} (h : Below w.heap.size w W) (hp : w.heap.size ≤ p.block) (v : Value) : Below w.heap.size w (W.setCell p v) := h.setCell hp v
theorem La.made (w : World) (s : ByteArray) (k : Nat) : La (((((w.alloc (.cells #[.string s] 9)).alloc (.cells #[.int .i64 0] 3)).alloc (.cells #[.int .i64 0] 3)).alloc (.cells #[.int .i64 0] 22)).drewN k) w.heap.size s 0 0 0 := by
  have e1 : (w.alloc (.cells #[.string s] 9)).heap.size = w.heap.size + 1 := by simp
  have e2 : ((w.alloc (.cells #[.string s] 9)).alloc (.cells #[.int .i64 0] 3)).heap.size = w.heap.size + 2 := by simp
  have e3 : (((w.alloc (.cells #[.string s] 9)).alloc (.cells #[.int .i64 0] 3)).alloc (.cells #[.int .i64 0] 3)).heap.size = w.heap.size + 3 := by simp
  have q0 := Boxed.new w 9 (.string s)
  have q1 := Boxed.new (w.alloc (.cells #[.string s] 9)) 3 (.int .i64 0)
  have q2 := Boxed.new ((w.alloc (.cells #[.string s] 9)).alloc (.cells #[.int .i64 0] 3)) 3 (.int .i64 0)
  have q3 := Boxed.new (((w.alloc (.cells #[.string s] 9)).alloc (.cells #[.int .i64 0] 3)).alloc (.cells #[.int .i64 0] 3)) 22 (.int .i64 0)
  rw [e1] at q1
  rw [e2] at q2
  rw [e3] at q3
  exact ⟨((q0.alloc _).alloc _).alloc _, (q1.alloc _).alloc _, q2.alloc _, q3⟩
structure Lb (W : World) (S : Nat) (s : ByteArray) (x y z n : Int) : Prop where
  bs : Boxed W S 9 (.string s)
  bx : Boxed W (S + 1) 3 (.int .i64 x)
  bY : Boxed W (S + 2) 3 (.int .i64 y)
  bz : Boxed W (S + 3) 22 (.int .i64 z)
  bn : Boxed W (S + 4) 3 (.int .i64 n)
theorem Lb.kept {No : Nat → Prop} {W W' : World} {S : Nat} {s : ByteArray} {x y z n : Int} (h : Lb W S s x y z n) (k : Keep No W W') (hn : No S ∧ No (S + 1) ∧ No (S + 2) ∧ No (S + 3) ∧ No (S + 4)) : Lb W' S s x y z n :=
  ⟨boxed_keep h.bs k hn.1, boxed_keep h.bx k hn.2.1, boxed_keep h.bY k hn.2.2.1, boxed_keep h.bz k hn.2.2.2.1, boxed_keep h.bn k hn.2.2.2.2⟩
theorem Lb.setn {W : World} {S : Nat} {s : ByteArray} {x y z n : Int} (h : Lb W S s x y z n) (n' : Int) : Lb (W.setCell ⟨S + 4, 0, none⟩ (.int .i64 n')) S s x y z n' :=
  ⟨h.bs.other (by omega) _, h.bx.other (by omega) _, h.bY.other (by omega) _, h.bz.other (by omega) _, h.bn.set _⟩
theorem Lb.setx {W : World} {S : Nat} {s : ByteArray} {x y z n : Int} (h : Lb W S s x y z n) (n' : Int) : Lb (W.setCell ⟨S + 1, 0, none⟩ (.int .i64 n')) S s n' y z n :=
  ⟨h.bs.other (by omega) _, h.bx.set _, h.bY.other (by omega) _, h.bz.other (by omega) _, h.bn.other (by omega) _⟩
theorem Lb.sety {W : World} {S : Nat} {s : ByteArray} {x y z n : Int} (h : Lb W S s x y z n) (n' : Int) : Lb (W.setCell ⟨S + 2, 0, none⟩ (.int .i64 n')) S s x n' z n :=
  ⟨h.bs.other (by omega) _, h.bx.other (by omega) _, h.bY.set _, h.bz.other (by omega) _, h.bn.other (by omega) _⟩
theorem Lb.setz {W : World} {S : Nat} {s : ByteArray} {x y z n : Int} (h : Lb W S s x y z n) (n' : Int) : Lb (W.setCell ⟨S + 3, 0, none⟩ (.int .i64 n')) S s x y n' n :=
  ⟨h.bs.other (by omega) _, h.bx.other (by omega) _, h.bY.other (by omega) _, h.bz.set _, h.bn.other (by omega) _⟩
set_option maxRecDepth 100000 in
set_option maxHeartbeats 4000000 in
theorem len_in (s : ByteArray) (i j : Int) (w : World) (hs : s.size ≤ 140737488351232) (h1 : -9223372036854775808 ≤ i) (h2 : i ≤ 9223372036854775807) (h3 : -9223372036854775808 ≤ j) (h4 : j ≤ 9223372036854775807) :
    CallsIn Fence.wide 6 Try.prog 9 #[.string s, .int .i64 i, .int .i64 j] w fun e w' => e = .returned (.tuple #[.int .i64 (lenR s i j).1, .int .i64 (lenR s i j).2.1, .int .i64 (lenR s i j).2.2]) ∧ Below w.heap.size w w' := by
  have D : ∀ x : Int, (x = i ∨ x = j) → ∀ W, Calls Try.prog 25 #[.string s, .int .i64 x] W fun e w' => e = .returned (.int .i64 (mt s.size x)) ∧ w' = W := fun x hx W => meant_any s x W hs (by omega) (by omega)
  have hmt := mt_le hs h1 h2
  obtain ⟨R, hR⟩ : ∃ R, lenR s i j = R := ⟨_, rfl⟩
  rw [hR]
  unfold lenR at hR
  generalize mt s.size = M at D hmt hR
  refine callsIn_of_wp_marks Try.func9 rfl trivial ?_ rfl
  simp only [Try.ntmps9, List.size_toArray, List.length_cons, List.length_nil, Nat.reduceAdd, Nat.reduceSub, Array.replicate_succ, Array.replicate_zero, List.push_toArray, List.append_toArray, List.nil_append, List.cons_append]
  refine wpIn_wide.2 ?_
  go_wp2
  go_quiet (exact Calls.quiet_of_same (D _ (by simp) _))
  generalize hW1 : World.drewN ((((w.alloc (.cells #[.string s] 9)).alloc (.cells #[.int .i64 0] 3)).alloc (.cells #[.int .i64 0] 3)).alloc (.cells #[.int .i64 0] 22)) _ = W1
  have LA : La W1 w.heap.size s 0 0 0 := hW1 ▸ La.made w s _
  have BA : Below w.heap.size w W1 := by
    rw [← hW1]
    exact ⟨rfl, rfl, rfl, by simp [World.drewN]; omega, fun g hg => (bthen (bthen (bthen (b1 w _) (by simp) (b1 _ _)) (by simp; omega) (b1 _ _)) (by simp; omega) (b1 _ _)).block g hg⟩
  have hS1 : W1.heap.size = w.heap.size + 4 := by rw [← hW1]; simp [World.drewN]
  clear hW1
  have c0 := LA.bs.cell
  have c1 := LA.bx.cell
  have c2 := LA.bY.cell
  have c3 := LA.bz.cell
  have f1 := LA.bx.frozen
  have f2 := LA.bY.frozen
  have f3 := LA.bz.frozen
  have q2 : IntKind.i64.wrap ((s.size : Int) + 1) = (s.size : Int) + 1 := by rw [IntKind.wrap_i64]; omega
  clear D
  by_cases hE : M i < 1 ∨ (s.size : Int) + 1 < M i ∨ (s.size : Int) < M j
  · rw [if_pos hE] at hR
    subst hR
    clear hS1
    have LZ := ((LA.setx 0).sety 0).setz 1
    have BZ := below_set (p := ⟨w.heap.size + 3, 0, none⟩) (below_set (p := ⟨w.heap.size + 2, 0, none⟩) (below_set (p := ⟨w.heap.size + 1, 0, none⟩) BA (by simp) (.int .i64 0)) (by simp) (.int .i64 0)) (by simp) (.int .i64 1)
    have o0 := LZ.bx.cell
    have o1 : World.cell? _ ⟨w.heap.size + 1 + 1, 0, none⟩ = _ := LZ.bY.cell
    have o2 : World.cell? _ ⟨w.heap.size + 1 + 1 + 1, 0, none⟩ = _ := LZ.bz.cell
    have HZ : Hid (_ ∧ _ ∧ _ ∧ _) := ⟨o0, o1, o2, BZ⟩
    clear o0 o1 o2 LZ BZ
    by_cases hE1 : M i < 1
    · go_wp2
      obtain ⟨o0, o1, o2, BZ⟩ := HZ.out
      exact ⟨.tuple #[.int .i64 0, .int .i64 0, .int .i64 1], by simp [results, Try.results9, go_sem, o0, o1, o2], rfl, BZ⟩
    · by_cases hE2 : (s.size : Int) + 1 < M i
      · go_wp2
        obtain ⟨o0, o1, o2, BZ⟩ := HZ.out
        exact ⟨.tuple #[.int .i64 0, .int .i64 0, .int .i64 1], by simp [results, Try.results9, go_sem, o0, o1, o2], rfl, BZ⟩
      · have hE3 : (s.size : Int) < M j := by omega
        go_wp2
        obtain ⟨o0, o1, o2, BZ⟩ := HZ.out
        exact ⟨.tuple #[.int .i64 0, .int .i64 0, .int .i64 1], by simp [results, Try.results9, go_sem, o0, o1, o2], rfl, BZ⟩
  · rw [if_neg hE] at hR
    have hE1 : ¬ M i < 1 := by omega
    have hE2 : ¬ (s.size : Int) + 1 < M i := by omega
    have hE3 : ¬ (s.size : Int) < M j := by omega
    obtain ⟨a, ha⟩ : ∃ a : Nat, M i = (a : Int) + 1 := ⟨(M i).toNat - 1, by omega⟩
    obtain ⟨b, hb⟩ : ∃ b : Int, M j = b := ⟨_, rfl⟩
    rw [ha] at hR hE1 hE2
    rw [hb] at hR hE3
    rw [ha, hb]
    rw [show ((a : Int) + 1).toNat - 1 = a by omega] at hR
    have HS1 : Hid (W1.heap.size = w.heap.size + 4) := hS1
    have cN : (W1.alloc (.cells #[.int .i64 0] 3)).cell? ⟨w.heap.size, 0, none⟩ = some (.string s) := (LA.bs.alloc _).cell
    clear hS1 c1 c2 c3 f1 f2 f3
    go_wp2_with (go_at_call 26; refine (between_any _ _ _ _).mono ?_; rintro e w1 ⟨rfl, hw1⟩; subst w1)
    have LB0 : Lb (W1.alloc (.cells #[.int .i64 0] 3)) w.heap.size s 0 0 0 0 := by
      have q := Boxed.new W1 3 (.int .i64 0)
      rw [HS1.out] at q
      exact ⟨LA.bs.alloc _, LA.bx.alloc _, LA.bY.alloc _, LA.bz.alloc _, q⟩
    have BN : Below w.heap.size w (W1.alloc (.cells #[.int .i64 0] 3)) := bthen BA BA.size (b1 _ _)
    have hSN : (W1.alloc (.cells #[.int .i64 0] 3)).heap.size = w.heap.size + 4 + 1 := by rw [← HS1.out]; simp
    generalize W1.alloc (.cells #[.int .i64 0] 3) = WN at *
    rw [HS1.out]
    have BL : Below WN.heap.size WN (((WN.alloc (.cells #[.string s] 9)).alloc (.cells #[.int .i64 ((a : Int) + 1)] 3)).alloc (.cells #[.int .i64 b] 3)) := bthen (bthen (b1 _ _) (by simp) (b1 _ _)) (by simp; omega) (b1 _ _)
    have IL : ∀ Ks : Nat → Prop, (∀ g, WN.heap.size ≤ g → g < WN.heap.size + 3 → Ks g) → It (((WN.alloc (.cells #[.string s] 9)).alloc (.cells #[.int .i64 ((a : Int) + 1)] 3)).alloc (.cells #[.int .i64 b] 3)) Ks WN.heap.size s ((a : Int) + 1) b := fun Ks hK => by
      have e1 : (WN.alloc (.cells #[.string s] 9)).heap.size = WN.heap.size + 1 := by simp
      have e2 : ((WN.alloc (.cells #[.string s] 9)).alloc (.cells #[.int .i64 ((a : Int) + 1)] 3)).heap.size = WN.heap.size + 2 := by simp
      have q0 := Boxed.new WN 9 (.string s)
      have q1 := Boxed.new (WN.alloc (.cells #[.string s] 9)) 3 (.int .i64 ((a : Int) + 1))
      have q2 := Boxed.new ((WN.alloc (.cells #[.string s] 9)).alloc (.cells #[.int .i64 ((a : Int) + 1)] 3)) 3 (.int .i64 b)
      rw [e1] at q1
      rw [e2] at q2
      exact ⟨((q0.alloc _).alloc _).cell, (q1.alloc _).cell, q2.cell, hK _ (by omega) (by omega), hK _ (by omega) (by omega), hK _ (by omega) (by omega)⟩
    have hSL : (((WN.alloc (.cells #[.string s] 9)).alloc (.cells #[.int .i64 ((a : Int) + 1)] 3)).alloc (.cells #[.int .i64 b] 3)).heap.size = WN.heap.size + 3 := by simp
    generalize ((WN.alloc (.cells #[.string s] 9)).alloc (.cells #[.int .i64 ((a : Int) + 1)] 3)).alloc (.cells #[.int .i64 b] 3) = WL at *
    rw [hSN] at IL hSL
    have LBL : Lb WL w.heap.size s 0 0 0 0 := LB0.kept (No := fun _ => True) (Keep.of BL) ⟨trivial, trivial, trivial, trivial, trivial⟩
    have BW : Below w.heap.size w WL := bthen BN BN.size BL
    have IT := IL (fun g => g < WL.heap.size ∧ g ≠ w.heap.size + 4) (fun g q1 q2 => ⟨by omega, by omega⟩)
    have HSL : Hid (WL.heap.size = w.heap.size + 8) := by show _ = _; omega
    clear IL BL LB0 BN hSN hSL LA BA cN c0 q2 hE hE1 hE2 hmt ha hb HS1
    refine (wpIn_wide (n := 6)).1 ?_
    refine wpIn_rangeFunc_ownH (n := 6) rfl (by omega) (gf := 41) (lb := #[.pointer (some ⟨w.heap.size + 4 + 1 + 1, 0, none⟩), .pointer (some ⟨w.heap.size + 4 + 1 + 2, 0, none⟩), .pointer (some ⟨w.heap.size + 4 + 1, 0, none⟩)]) rfl trivial (enters_of Try.func41 (by kernel_rfl) rfl)
      (iter_stops (fun g => g < WL.heap.size ∧ g ≠ w.heap.size + 4) (w.heap.size + 4 + 1) s a b hs (by omega) WL (fun g q => q.1) IT) keepK_t (keepK_b (fun g q => q.1)) (Below.refl _ _) (fun _ => rfl)
      (fun pre W => badOf (pre.map (rA s)) < 0 ∧ Lb W w.heap.size s 0 0 0 pre.length ∧ Keep (fun g => g < WL.heap.size ∧ g ≠ w.heap.size + 4) WL W)
      (fun cd pre W => cd = .ret ∧ 0 ≤ badOf (pre.map (rA s)) ∧ La W w.heap.size s 0 (badOf (pre.map (rA s)) + 1) 0 ∧ Keep (fun g => g < w.heap.size) WL W)
      (ownFrom_of fun st W W' hst hk => ⟨hst.1, hst.2.1.kept hk (by have := HSL.out; exact ⟨by omega, by omega, by omega, by omega, by omega⟩), hst.2.2.trans (hk.sub (fun g q => q.1))⟩)
      (fun cd => ownFrom_of fun st W W' hst hk => ⟨hst.1, hst.2.1, hst.2.2.1.kept hk (by have := HSL.out; exact ⟨by omega, by omega, by omega, by omega⟩), hst.2.2.2.trans (hk.sub (fun g q => by have := HSL.out; omega))⟩)
      ⟨by unfold badOf; simp, LBL, Keep.refl _ _⟩
      (fun x a' W => a' = { tmps := #[.string s, .int .i64 i, .int .i64 j, .pointer (some ⟨w.heap.size, 0, none⟩), undef, undef, .pointer (some ⟨w.heap.size + 1, 0, none⟩), .pointer (some ⟨w.heap.size + 1 + 1, 0, none⟩), .pointer (some ⟨w.heap.size + 1 + 1 + 1, 0, none⟩), .int .i64 ((a : Int) + 1), .int .i64 b, .pointer (some ⟨w.heap.size + 4, 0, none⟩), .int .i64 ((x.1 : Int) + 1), .int .i32 (rn s x.1), .string s, .int .i64 i, .int .i64 ((a : Int) + 1), .string s, .int .i64 j, .int .i64 b, .int .i64 ((a : Int) + 1), .bool false, .bool false, .int .i64 ((a : Int) + 1), .string s, .int .i64 s.size, .int .i64 ((s.size : Int) + 1), .bool false, .bool false, .bool false, .int .i64 b, .string s, .int .i64 s.size, .bool false, .bool false, .string s, .int .i64 ((a : Int) + 1), .int .i64 b, (.func (.func 41) #[] #[.pointer (some ⟨w.heap.size + 4 + 1 + 1, 0, none⟩), .pointer (some ⟨w.heap.size + 4 + 1 + 2, 0, none⟩), .pointer (some ⟨w.heap.size + 4 + 1, 0, none⟩)]), .int .i64 ((x.1 : Int) + 1), .int .i32 (rn s x.1), undef, undef, undef, undef, undef, undef, undef, undef], defers := [] })
      (fun x a' => fun _ A' B' row hst hg hr => hst) ?assign ?body ?done ?stop
    case assign =>
      rintro l pre x W K hI hK
      unfold encP
      gi_wp2
      exact hK _ _ ((KeepsOthers.refl W).from _) ⟨Keep.refl _ _, KeepsWalks.refl _⟩ hI rfl
    case body =>
      rintro l pre x a' W hl _ ⟨hb0, hL, hkw⟩ rfl hlt
      have CI := fun W => CallsIn.inRound l (callsIn_wide (n := 3).2 (invalid_any s x.1 W hs x.2))
      have c0 := hL.bs.cell
      have hsn := badOf_snoc (pre.map (rA s)) (rA s x) hb0
      rw [isBad_at] at hsn
      have hrl := rn_le s x.1
      have hxl := x.2
      have e1 : (pre ++ [x]).map (rA s) = pre.map (rA s) ++ [rA s x] := by simp
      have HO : Hid (∀ w1, Below W.heap.size W w1 → KeepsOthers W w1 ∧ KeepsWalks W w1) := fun w1 hb1 => ⟨KeepsOthers.of_grownBy (grown_of_below hb1) (fun j o e => by cases e), KeepsWalks.of_grownBy (grown_of_below hb1) (fun j o e => by cases e)⟩
      cases hbd : bdB s x.1 with
      | false =>
        rw [hbd] at CI hsn
        have w1 : IntKind.i64.wrap ((pre.length : Int) + 1) = ((pre ++ [x]).length : Int) := by rw [IntKind.wrap_i64]; simp; omega
        gi_wp2_with (refine ⟨trivial, ?_⟩; gi_at_call 27; refine (CI _).mono ?_; rintro e w2 ⟨rfl, hb1⟩; have L1 := hL.kept (No := fun _ => True) (Keep.of hb1) ⟨trivial, trivial, trivial, trivial, trivial⟩; have cn := L1.bn.cell; have fn := L1.bn.frozen)
        refine ⟨((HO.out _ hb1).1.trans (KeepsOthers.setCell _ _ _)).from _, ⟨((Keep.of hb1).sub (fun g q => trivial)).set (p := ⟨w.heap.size + 4, 0, none⟩) (fun q => q.2 rfl) _, (HO.out _ hb1).2.trans (KeepsWalks.setCell _ _ _)⟩, ?_, by rw [show ((pre ++ [x]).length : Int) = (pre.length : Int) + 1 by simp]; exact L1.setn _, ?_⟩
        · rw [e1, hsn]; simp
        · exact hkw.trans (((Keep.of hb1).sub (fun g q => trivial)).set (p := ⟨w.heap.size + 4, 0, none⟩) (fun q => q.2 rfl) _)
      | true =>
        rw [hbd] at CI hsn
        gi_wp2_with (refine ⟨trivial, ?_⟩; gi_at_call 27; refine (CI _).mono ?_; rintro e w2 ⟨rfl, hb1⟩; have L1 := hL.kept (No := fun _ => True) (Keep.of hb1) ⟨trivial, trivial, trivial, trivial, trivial⟩; have c1 := L1.bx.cell; have c2 := L1.bY.cell; have c3 := L1.bz.cell; have f1 := L1.bx.frozen; have f2 := L1.bY.frozen; have f3 := L1.bz.frozen)
        have e2 : badOf ((pre ++ [x]).map (rA s)) = (x.1 : Int) := by rw [e1, hsn]; rfl
        have LZ := (((show La w2 w.heap.size s 0 0 0 from ⟨L1.bs, L1.bx, L1.bY, L1.bz⟩).setx 0).sety ((x.1 : Int) + 1)).setz 0
        refine ⟨((((HO.out _ hb1).1.trans (KeepsOthers.setCell _ _ _)).trans (KeepsOthers.setCell _ _ _)).trans (KeepsOthers.setCell _ _ _)).from _, rfl, ?_, ?_, ?_⟩
        · rw [e2]; omega
        · rw [e2]; exact LZ
        · refine (hkw.sub (fun g q => ?_)).trans ((((Keep.of hb1).set (p := ⟨w.heap.size + 1, 0, none⟩) (fun q => ?_) _).set (p := ⟨w.heap.size + 2, 0, none⟩) (fun q => ?_) _).set (p := ⟨w.heap.size + 3, 0, none⟩) (fun q => ?_) _)
          · have := HSL.out; exact ⟨by omega, by omega⟩
          · have q' : w.heap.size + 1 < w.heap.size := q; omega
          · have q' : w.heap.size + 2 < w.heap.size := q; omega
          · have q' : w.heap.size + 3 < w.heap.size := q; omega
    case done =>
      rintro D xs W hD hxs ⟨hb0, hL, hkw⟩ hK
      have c0 := hL.bn.cell
      have c1 := hL.bx.cell
      have c2 : W.cell? ⟨w.heap.size + 1 + 1, 0, none⟩ = _ := hL.bY.cell
      have c3 : W.cell? ⟨w.heap.size + 1 + 1 + 1, 0, none⟩ = _ := hL.bz.cell
      have f1 := hL.bx.frozen
      have f2 : W.frozen? ⟨w.heap.size + 1 + 1, 0, none⟩ = _ := hL.bY.frozen
      have f3 : W.frozen? ⟨w.heap.size + 1 + 1 + 1, 0, none⟩ = _ := hL.bz.frozen
      have LZ := (((show La W w.heap.size s 0 0 0 from ⟨hL.bs, hL.bx, hL.bY, hL.bz⟩).setx xs.length).sety 0).setz 0
      have kZ : Keep (fun g => g < w.heap.size) WL (((W.setCell ⟨w.heap.size + 1, 0, none⟩ (.int .i64 xs.length)).setCell ⟨w.heap.size + 2, 0, none⟩ (.int .i64 0)).setCell ⟨w.heap.size + 3, 0, none⟩ (.int .i64 0)) := by
        refine (((hkw.sub (fun g q => ?_)).set (p := ⟨w.heap.size + 1, 0, none⟩) (fun q => ?_) _).set (p := ⟨w.heap.size + 2, 0, none⟩) (fun q => ?_) _).set (p := ⟨w.heap.size + 3, 0, none⟩) (fun q => ?_) _
        · have := HSL.out; exact ⟨by omega, by omega⟩
        · have q' : w.heap.size + 1 < w.heap.size := q; omega
        · have q' : w.heap.size + 2 < w.heap.size := q; omega
        · have q' : w.heap.size + 3 < w.heap.size := q; omega
      have kO : KeepsOthers W (((W.setCell ⟨w.heap.size + 1, 0, none⟩ (.int .i64 xs.length)).setCell ⟨w.heap.size + 2, 0, none⟩ (.int .i64 0)).setCell ⟨w.heap.size + 3, 0, none⟩ (.int .i64 0)) := ((KeepsOthers.setCell _ _ _).trans (KeepsOthers.setCell _ _ _)).trans (KeepsOthers.setCell _ _ _)
      have eR : R = ((xs.length : Int), 0, 0) := by
        rw [← hR]
        unfold lenA
        rw [← hxs, if_pos hb0]
        simp
      subst eR
      have HZ : Hid (_ ∧ _ ∧ _) := ⟨LZ, kZ, kO⟩
      clear LZ kZ kO hR hb0
      go_wp2
      obtain ⟨LZ, kZ, kO⟩ := HZ.out
      have hK2 := kO.same D _ hK rfl
      refine ⟨by simp, .inl ⟨_, _, rfl, run_takeDeferred hK2, ?_⟩⟩
      have kD : Keep (fun g => g < WL.heap.size) _ (World.putObj _ D (.deferred none)) := (keepK_b (w := WL) (fun g q => q) _ D _ _ hD hK2 rfl rfl).1
      have LD := LZ.kept kD (by have := HSL.out; exact ⟨by omega, by omega, by omega, by omega⟩)
      have o0 := LD.bx.cell
      have o1 : World.cell? _ ⟨w.heap.size + 1 + 1, 0, none⟩ = _ := LD.bY.cell
      have o2 : World.cell? _ ⟨w.heap.size + 1 + 1 + 1, 0, none⟩ = _ := LD.bz.cell
      exact ⟨.tuple #[.int .i64 xs.length, .int .i64 0, .int .i64 0], by simp [results, Try.results9, go_sem, o0, o1, o2], rfl, BW.trans ((kZ.trans (kD.sub (fun g q => by have := HSL.out; have q' : g < w.heap.size := q; show g < WL.heap.size; omega))).below (by have := HSL.out; omega) (fun g q => q))⟩
    case stop =>
      rintro D cd pre W hD hpre ⟨rfl, hb0, hL, hkw⟩ hK
      have eR : R = (0, badOf (pre.map (rA s)) + 1, 0) := by
        rw [← hR]
        obtain ⟨r, hr⟩ := hpre
        have e := badOf_app (pre.map (rA s)) r hb0
        unfold lenA
        rw [← hr, e, if_neg (by omega)]
      subst eR
      gi_wp2
      refine ⟨by simp, .inl ⟨_, _, rfl, run_takeDeferred hK, ?_⟩⟩
      have kD : Keep (fun g => g < WL.heap.size) W (W.putObj D (.deferred none)) := (keepK_b (w := WL) (fun g q => q) _ D _ _ hD hK rfl rfl).1
      have LD := hL.kept kD (by have := HSL.out; exact ⟨by omega, by omega, by omega, by omega⟩)
      have o0 := LD.bx.cell
      have o1 : World.cell? _ ⟨w.heap.size + 1 + 1, 0, none⟩ = _ := LD.bY.cell
      have o2 : World.cell? _ ⟨w.heap.size + 1 + 1 + 1, 0, none⟩ = _ := LD.bz.cell
      exact ⟨.tuple #[.int .i64 0, .int .i64 (badOf (pre.map (rA s)) + 1), .int .i64 0], by simp [results, Try.results9, go_sem, o0, o1, o2], rfl, BW.trans ((hkw.trans (kD.sub (fun g q => by have := HSL.out; have q' : g < w.heap.size := q; show g < WL.heap.size; omega))).below (by have := HSL.out; omega) (fun g q => q))⟩
theorem len_any (s : ByteArray) (i j : Int) (w : World) (hs : s.size ≤ 140737488351232) (h1 : -9223372036854775808 ≤ i) (h2 : i ≤ 9223372036854775807) (h3 : -9223372036854775808 ≤ j) (h4 : j ≤ 9223372036854775807) :
    Calls Try.prog 9 #[.string s, .int .i64 i, .int .i64 j] w fun e w' => e = .returned (.tuple #[.int .i64 (lenR s i j).1, .int .i64 (lenR s i j).2.1, .int .i64 (lenR s i j).2.2]) ∧ Below w.heap.size w w' := callsIn_wide.1 (len_in s i j w hs h1 h2 h3 h4)
end Go.Proofs.Ytbgbhogcjaodkaa

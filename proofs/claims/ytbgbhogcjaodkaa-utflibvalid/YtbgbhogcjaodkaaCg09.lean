/- The walk of Codes. -/
import Derived.Test.YtbgbhogcjaodkaaCg04
import Derived.Test.YtbgbhogcjaodkaaCg08
import Derived.Maps.AppendAt
namespace Go.Proofs.Ytbgbhogcjaodkaa
open Go.RowKit Go.Shelf
attribute [local go_sem] Oper.semAt_some

/-- The code points of runes, as values. -/
def ints (l : List Rn) : List Value := l.map fun r => .int .i64 (r.2.2 : Int)
/-- What Codes answers of the runes between two places: its error. -/
def cdE (l : List Rn) : Int := if 0 ≤ badOf (l.take 201) then 3 else if 200 < l.length then 14 else 0
def cdL (l : List Rn) : List Rn := if cdE l = 0 then l else []
def cdR (s : ByteArray) (i j : Int) : List Rn × Int :=
  if mt s.size i < 1 ∨ (s.size : Int) < mt s.size j then ([], 1)
  else (cdL (bw s ((mt s.size i).toNat - 1) (mt s.size j)), cdE (bw s ((mt s.size i).toNat - 1) (mt s.size j)))
/-- The boxes of Codes but the list's: the text, two answers. -/
structure Lc (W : World) (S : Nat) (s : ByteArray) (v : Value) (z : Int) : Prop where
  bs : Boxed W S 9 (.string s)
  bx : Boxed W (S + 1) 25 v
  bz : Boxed W (S + 2) 22 (.int .i64 z)
theorem Lc.kept {No : Nat → Prop} {W W' : World} {S : Nat} {s : ByteArray} {v : Value} {z : Int} (h : Lc W S s v z) (k : Keep No W W') (hn : No S ∧ No (S + 1) ∧ No (S + 2)) : Lc W' S s v z :=
  ⟨boxed_keep h.bs k hn.1, boxed_keep h.bx k hn.2.1, boxed_keep h.bz k hn.2.2⟩
def set2 (W : World) (S : Nat) (v : Value) (z : Int) : World := (W.setCell ⟨S + 1, 0, none⟩ v).setCell ⟨S + 2, 0, none⟩ (.int .i64 z)
theorem Lc.set {W : World} {S : Nat} {s : ByteArray} {v : Value} {z : Int} (h : Lc W S s v z) (v' : Value) (z' : Int) : Lc (set2 W S v' z') S s v' z' :=
  ⟨(h.bs.other (by omega) _).other (by omega) _, (h.bx.set _).other (by omega) _, (h.bz.other (by omega) _).set _⟩
theorem keep_set2 {No : Nat → Prop} {w W : World} {S : Nat} (h : Keep No w W) (hn : ¬ No (S + 1) ∧ ¬ No (S + 2)) (v : Value) (z : Int) : Keep No w (set2 W S v z) :=
  (h.set (p := ⟨S + 1, 0, none⟩) hn.1 _).set (p := ⟨S + 2, 0, none⟩) hn.2 _
theorem others_set2 (W : World) (S : Nat) (v : Value) (z : Int) : KeepsOthers W (set2 W S v z) := (KeepsOthers.setCell _ _ _).trans (KeepsOthers.setCell _ _ _)
theorem Lc.made (w : World) (s : ByteArray) (k : Nat) : Lc ((((w.alloc (.cells #[.string s] 9)).alloc (.cells #[.slice none 0 0] 25)).alloc (.cells #[.int .i64 0] 22)).drewN k) w.heap.size s (.slice none 0 0) 0 := by
  have e1 : (w.alloc (.cells #[.string s] 9)).heap.size = w.heap.size + 1 := by simp
  have e2 : ((w.alloc (.cells #[.string s] 9)).alloc (.cells #[.slice none 0 0] 25)).heap.size = w.heap.size + 2 := by simp
  have q0 := Boxed.new w 9 (.string s)
  have q1 := Boxed.new (w.alloc (.cells #[.string s] 9)) 25 (.slice none 0 0)
  have q2 := Boxed.new ((w.alloc (.cells #[.string s] 9)).alloc (.cells #[.slice none 0 0] 25)) 22 (.int .i64 0)
  rw [e1] at q1
  rw [e2] at q2
  exact ⟨(q0.alloc _).alloc _, q1.alloc _, q2⟩
theorem info3 : (Try.prog.info? 3).map (fun i => (i.zero, i.size, i.bytes)) = some (some (.int .i64 0), 1, 8) := by kernel_rfl
theorem boxed_app {W w1 : World} {base B : Nat} {t e : TypeId} {size : Nat} {v v' : Value} {k m : Nat} {xs ys : List Value} {tmp : Obj} {Ks : Nat → Prop}
    (hv : Boxed W B t v) (hte : t ≠ e) (hrow : W.ownsRow base e size v k xs) (hown' : w1.ownsRow base e size v' m ys) (hgrow : (W.alloc tmp).grownBy w1 v.ownBlock) (hK : ∀ g, Ks g → g < base ∧ g ≠ B) :
    Boxed w1 B t v ∧ Boxed (w1.setCell ⟨B, 0, none⟩ v') B t v' ∧ (w1.setCell ⟨B, 0, none⟩ v').ownsRow base e size v' m ys ∧ KeepsOthers W (w1.setCell ⟨B, 0, none⟩ v') ∧ Keep Ks W (w1.setCell ⟨B, 0, none⟩ v') := by
  have h1 : Boxed w1 B t v := (hv.alloc tmp).kept hgrow (hv.not_row hte hrow)
  have hown : ∀ j, v.ownBlock = some j → base ≤ j ∧ ∃ o : Obj, (W.alloc tmp).heap[j]? = some o ∧ o.isCells = true := fun j ej => by
    rcases (hrow.alloc tmp).2 with ⟨rfl, _⟩ | ⟨g, cap, cur, rfl, hb, hgb, _⟩
    · simp [Value.ownBlock] at ej
    · obtain rfl : g = j := by simpa [Value.ownBlock] using ej
      exact ⟨hb, _, hgb, rfl⟩
  refine ⟨h1, h1.set v', hown'.kept (grownBy_setCell' w1 B v') (.inr (h1.not_row hte hown').symm), ?_, ?_⟩
  · refine ((KeepsOthers.alloc W tmp).trans (KeepsOthers.of_grownBy hgrow fun j o ej hj => ?_)).trans (KeepsOthers.setCell _ _ _)
    obtain ⟨_, o', ho', hc⟩ := hown j ej
    rw [ho'] at hj; cases hj; exact hc
  · have k1 : Keep Ks W w1 := ((Keep.refl Ks W).alloc tmp).trans ⟨hgrow.os, hgrow.tape, hgrow.output, hgrow.size, fun g hg hk => hgrow.block g hg (fun e => by have := (hown g e.symm).1; have := (hK g hk).1; omega)⟩
    exact k1.set (p := ⟨B, 0, none⟩) (fun q => (hK B q).2 rfl) _
theorem ownsRow_base {W : World} {base base' : Nat} {e : TypeId} {size : Nat} {v : Value} {k : Nat} {xs : List Value} (h : W.ownsRow base e size v k xs) (hb : base' ≤ base) : W.ownsRow base' e size v k xs := by
  refine ⟨h.1, ?_⟩
  rcases h.2 with q | ⟨g, cap, cur, e1, e2, e3⟩
  · exact .inl q
  · exact .inr ⟨g, cap, cur, e1, Nat.le_trans hb e2, e3⟩
theorem ownsRow_slice {W : World} {base : Nat} {e : TypeId} {size : Nat} {v : Value} {k : Nat} {xs : List Value} (h : W.ownsRow base e size v k xs) : ∃ o c, v = .slice o k c := by
  rcases h.2 with ⟨q, hk⟩ | ⟨g, cap, cur, q, _⟩
  · exact ⟨none, 0, by rw [q]; simp_all⟩
  · exact ⟨_, _, q⟩
theorem new1 (W : World) (r : Int) : ∀ (j : Nat) (u : Value), ([.int .i64 r] : List Value)[j]? = some u → (W.alloc (.cells #[.int .i64 r] 3)).cell? ((⟨W.heap.size, 0, none⟩ : Addr).add j) = some u := fun j u hu => by
  have hj : j < 1 := by
    have := (List.getElem?_eq_some_iff.1 hu).1
    simpa using this
  obtain rfl : j = 0 := by omega
  cases hu
  exact (Boxed.new W 3 (.int .i64 r)).cell
theorem ints_snoc (s : ByteArray) (pre : List (Fin s.size)) (x : Fin s.size) : ints ((pre ++ [x]).map (rA s)) = ints (pre.map (rA s)) ++ [.int .i64 (rn s x.1 : Int)] := by simp [ints, rA]
theorem cdE_ok {l : List Rn} (h : badOf l < 0) (hl : l.length ≤ 200) : cdE l = 0 := by
  unfold cdE; rw [List.take_of_length_le (by omega), if_neg (by omega), if_neg (by omega)]
theorem cdE_bad {l : List Rn} {p : List Rn} (hp : p <+: l) (h : 0 ≤ badOf p) (hl : p.length ≤ 201) : cdE l = 3 := by
  obtain ⟨r, rfl⟩ := hp
  unfold cdE
  rw [if_pos]
  rw [List.take_append, List.take_of_length_le hl, badOf_app _ _ h]; exact h
theorem cdE_big {l : List Rn} {p : List Rn} (hp : p <+: l) (h : badOf p < 0) (hl : p.length = 201) : cdE l = 14 := by
  obtain ⟨r, rfl⟩ := hp
  unfold cdE
  rw [if_neg, if_pos (by simp; omega)]
  rw [List.take_append, List.take_of_length_le (by omega), hl]; simp; exact h
set_option maxRecDepth 100000 in
set_option maxHeartbeats 4000000 in
theorem codes_in (s : ByteArray) (i j : Int) (w : World) (hs : s.size ≤ 140737488351232) (h1 : -9223372036854775808 ≤ i) (h2 : i ≤ 9223372036854775807) (h3 : -9223372036854775808 ≤ j) (h4 : j ≤ 9223372036854775807) :
    CallsIn Fence.wide 6 Try.prog 11 #[.string s, .int .i64 i, .int .i64 j] w fun e w' => ∃ v, e = .returned (.tuple #[v, .int .i64 (cdR s i j).2]) ∧ w'.ownsRow w.heap.size 3 1 v (cdR s i j).1.length (ints (cdR s i j).1) ∧ Below w.heap.size w w' := by
  have D : ∀ x : Int, (x = i ∨ x = j) → ∀ W, Calls Try.prog 25 #[.string s, .int .i64 x] W fun e w' => e = .returned (.int .i64 (mt s.size x)) ∧ w' = W := fun x hx W => meant_any s x W hs (by omega) (by omega)
  have hmt := mt_le hs h1 h2
  obtain ⟨i0, hi, hz0, hz1, hz2⟩ := info_parts info3
  obtain ⟨R, hR⟩ : ∃ R, cdR s i j = R := ⟨_, rfl⟩
  rw [hR]
  unfold cdR at hR
  generalize mt s.size = M at D hmt hR
  refine callsIn_of_wp_marks Try.func11 rfl trivial ?_ rfl
  simp only [Try.ntmps11, List.size_toArray, List.length_cons, List.length_nil, Nat.reduceAdd, Nat.reduceSub, Array.replicate_succ, Array.replicate_zero, List.push_toArray, List.append_toArray, List.nil_append, List.cons_append]
  refine wpIn_wide.2 ?_
  go_wp2
  go_quiet (exact Calls.quiet_of_same (D _ (by simp) _))
  generalize hW1 : World.drewN (((w.alloc (.cells #[.string s] 9)).alloc (.cells #[.slice none 0 0] 25)).alloc (.cells #[.int .i64 0] 22)) _ = W1
  have LA : Lc W1 w.heap.size s (.slice none 0 0) 0 := hW1 ▸ Lc.made w s _
  have BA : Below w.heap.size w W1 := by
    rw [← hW1]
    exact ⟨rfl, rfl, rfl, by simp [World.drewN]; omega, fun g hg => (bthen (bthen (b1 w _) (by simp) (b1 _ _)) (by simp; omega) (b1 _ _)).block g hg⟩
  have hS1 : W1.heap.size = w.heap.size + 3 := by rw [← hW1]; simp [World.drewN]
  clear hW1 D
  have c0 := LA.bs.cell
  by_cases hE : M i < 1 ∨ (s.size : Int) < M j
  · rw [if_pos hE] at hR
    subst hR
    clear hS1
    have c1 := LA.bx.cell
    have c2 := LA.bz.cell
    have f1 := LA.bx.frozen
    have f2 := LA.bz.frozen
    have LZ := LA.set (.slice none 0 0) 1
    have BZ : Below w.heap.size w (set2 W1 w.heap.size (.slice none 0 0) 1) := BA.trans ((keep_set2 (No := fun g => g < w.heap.size) (S := w.heap.size) (Keep.refl _ W1) ⟨by omega, by omega⟩ (.slice none 0 0) 1).below BA.size (fun g q => q))
    have o0 := LZ.bx.cell
    have o1 : World.cell? _ ⟨w.heap.size + 1 + 1, 0, none⟩ = _ := LZ.bz.cell
    unfold set2 at o0 o1
    have HZ : Hid (_ ∧ _ ∧ _) := ⟨o0, o1, BZ⟩
    clear o0 o1 LZ BZ
    by_cases hE1 : M i < 1
    · clear hE
      go_wp2
      obtain ⟨o0, o1, BZ⟩ := HZ.out
      exact ⟨.tuple #[.slice none 0 0, .int .i64 1], by simp [results, Try.results11, go_sem, o0, o1], _, rfl, World.ownsRow_nil _ _ _ _, BZ⟩
    · have hE3 : (s.size : Int) < M j := by omega
      clear hE
      go_wp2
      obtain ⟨o0, o1, BZ⟩ := HZ.out
      exact ⟨.tuple #[.slice none 0 0, .int .i64 1], by simp [results, Try.results11, go_sem, o0, o1], _, rfl, World.ownsRow_nil _ _ _ _, BZ⟩
  · rw [if_neg hE] at hR
    have hE1 : ¬ M i < 1 := by omega
    have hE3 : ¬ (s.size : Int) < M j := by omega
    obtain ⟨a, ha⟩ : ∃ a : Nat, M i = (a : Int) + 1 := ⟨(M i).toNat - 1, by omega⟩
    obtain ⟨b, hb⟩ : ∃ b : Int, M j = b := ⟨_, rfl⟩
    rw [ha] at hR hE1
    rw [hb] at hR hE3
    rw [ha, hb]
    rw [show ((a : Int) + 1).toNat - 1 = a by omega] at hR
    have HS1 : Hid (W1.heap.size = w.heap.size + 3) := hS1
    have cN : (W1.alloc (.cells #[.slice none 0 0] 25)).cell? ⟨w.heap.size, 0, none⟩ = some (.string s) := (LA.bs.alloc _).cell
    clear hS1
    go_wp2_with (go_at_call 26; refine (between_any _ _ _ _).mono ?_; rintro e w1 ⟨rfl, hw1⟩; subst w1)
    have LN : Lc (W1.alloc (.cells #[.slice none 0 0] 25)) w.heap.size s (.slice none 0 0) 0 := ⟨LA.bs.alloc _, LA.bx.alloc _, LA.bz.alloc _⟩
    have AN := Boxed.new W1 25 (.slice none 0 0)
    rw [HS1.out] at AN
    have BN : Below w.heap.size w (W1.alloc (.cells #[.slice none 0 0] 25)) := bthen BA BA.size (b1 _ _)
    have hSN : (W1.alloc (.cells #[.slice none 0 0] 25)).heap.size = W1.heap.size + 1 := by simp
    generalize W1.alloc (.cells #[.slice none 0 0] 25) = WN at *
    rw [← hSN]
    rw [HS1.out] at hSN
    rw [HS1.out]
    have HSN : Hid (WN.heap.size = w.heap.size + 3 + 1) := hSN
    clear hSN
    have BL := bel3 WN s ((a : Int) + 1) b
    have IL := It.made WN s ((a : Int) + 1) b (fun g => g < WN.heap.size + 3 ∧ g ≠ w.heap.size + 3) (fun g q1 q2 => ⟨q2, by have := HSN.out; omega⟩)
    have hSL : (((WN.alloc (.cells #[.string s] 9)).alloc (.cells #[.int .i64 ((a : Int) + 1)] 3)).alloc (.cells #[.int .i64 b] 3)).heap.size = WN.heap.size + 3 := by simp
    generalize ((WN.alloc (.cells #[.string s] 9)).alloc (.cells #[.int .i64 ((a : Int) + 1)] 3)).alloc (.cells #[.int .i64 b] 3) = WL at *
    rw [← hSL] at IL
    have LBL : Lc WL w.heap.size s (.slice none 0 0) 0 := LN.kept (No := fun _ => True) (Keep.of BL) ⟨trivial, trivial, trivial⟩
    have ABL : Boxed WL (w.heap.size + 3) 25 (.slice none 0 0) := boxed_keep (No := fun _ => True) AN (Keep.of BL) trivial
    have BW : Below w.heap.size w WL := bthen BN BN.size BL
    have HSL : Hid (WL.heap.size = w.heap.size + 7) := by show _ = _; have := HSN.out; omega
    clear BL hSL BN LN LA BA cN c0 hE hE1 hmt ha hb HS1 HSN AN
    refine (wpIn_wide (n := 6)).1 ?_
    refine wpIn_rangeFunc_ownH (n := 6) rfl (by omega) (gf := 41) (lb := #[.pointer (some ⟨WN.heap.size + 1, 0, none⟩), .pointer (some ⟨WN.heap.size + 2, 0, none⟩), .pointer (some ⟨WN.heap.size, 0, none⟩)]) rfl trivial (enters_of Try.func41 (by kernel_rfl) rfl)
      (iter_stops (fun g => g < WL.heap.size ∧ g ≠ w.heap.size + 3) WN.heap.size s a b hs (by omega) WL (fun g q => q.1) IL) keepK_t (keepK_b (fun g q => q.1)) (Below.refl _ _) (fun _ => rfl)
      (fun pre W => (∃ v, Boxed W (w.heap.size + 3) 25 v ∧ W.ownsRow WL.heap.size 3 1 v pre.length (ints (pre.map (rA s))) ∧ True) ∧ (pre.length ≤ 200 ∧ badOf (pre.map (rA s)) < 0 ∧ Lc W w.heap.size s (.slice none 0 0) 0 ∧ Keep (fun g => g < WL.heap.size ∧ g ≠ w.heap.size + 3) WL W))
      (fun cd pre W => cd = .ret ∧ ∃ z, ((z = 3 ∧ 0 ≤ badOf (pre.map (rA s)) ∧ pre.length ≤ 201) ∨ (z = 14 ∧ badOf (pre.map (rA s)) < 0 ∧ pre.length = 201)) ∧ Lc W w.heap.size s (.slice none 0 0) z ∧ Keep (fun g => g < w.heap.size) WL W)
      (OwnFrom.and (Own.from (holdsRow_own WL.heap.size (w.heap.size + 3) 25 3 1 (fun pre : List (Fin s.size) => pre.length) (fun pre => ints (pre.map (rA s))) (fun _ _ => True)) _)
        (ownFrom_of fun st W W' hst hk => ⟨hst.1, hst.2.1, hst.2.2.1.kept hk (by have := HSL.out; exact ⟨by omega, by omega, by omega⟩), hst.2.2.2.trans (hk.sub (fun g q => q.1))⟩))
      (fun cd => ownFrom_of fun st W W' hst hk => by
        obtain ⟨g1, z, g2, g3, g4⟩ := hst
        exact ⟨g1, z, g2, g3.kept hk (by have := HSL.out; exact ⟨by omega, by omega, by omega⟩), g4.trans (hk.sub (fun g q => by have := HSL.out; omega))⟩)
      ⟨⟨_, ABL, World.ownsRow_nil _ _ _ _, trivial⟩, by simp, by unfold badOf; simp, LBL, Keep.refl _ _⟩
      (fun x a' W => a' = { tmps := #[.string s, .int .i64 i, .int .i64 j, .pointer (some ⟨w.heap.size, 0, none⟩), undef, undef, .pointer (some ⟨w.heap.size + 1, 0, none⟩), .pointer (some ⟨w.heap.size + 1 + 1, 0, none⟩), .int .i64 ((a : Int) + 1), .int .i64 b, .pointer (some ⟨w.heap.size + 3, 0, none⟩), .int .i64 ((x.1 : Int) + 1), .int .i32 (rn s x.1), .string s, .int .i64 i, .int .i64 ((a : Int) + 1), .string s, .int .i64 j, .int .i64 b, .int .i64 ((a : Int) + 1), .bool false, .bool false, .int .i64 b, .string s, .int .i64 s.size, .bool false, .bool false, .string s, .int .i64 ((a : Int) + 1), .int .i64 b, (.func (.func 41) #[] #[.pointer (some ⟨WN.heap.size + 1, 0, none⟩), .pointer (some ⟨WN.heap.size + 2, 0, none⟩), .pointer (some ⟨WN.heap.size, 0, none⟩)]), .int .i64 ((x.1 : Int) + 1), .int .i32 (rn s x.1), undef, undef, undef, undef, undef, undef, undef, undef, undef, undef, undef, undef, undef], defers := [] })
      (fun x a' => fun _ A' B' row hst hg hr => hst) ?assign ?body ?done ?stop
    case assign =>
      rintro l pre x W K hI hK
      unfold encP
      gi_wp2
      exact hK _ _ ((KeepsOthers.refl W).from _) ⟨Keep.refl _ _, KeepsWalks.refl _⟩ hI rfl
    case body =>
      rintro l pre x a' W hl _ ⟨⟨v, hv, hrow, _⟩, hln, hb0, hL, hkw⟩ rfl hlt
      have CI := fun W => CallsIn.inRound l (callsIn_wide (n := 3).2 (invalid_any s x.1 W hs x.2))
      have c0 := hL.bs.cell
      have hsn := badOf_snoc (pre.map (rA s)) (rA s x) hb0
      rw [isBad_at] at hsn
      have hrl := rn_le s x.1
      have hxl := x.2
      have e1 : (pre ++ [x]).map (rA s) = pre.map (rA s) ++ [rA s x] := by simp
      have HO : Hid (∀ w1, Below W.heap.size W w1 → KeepsOthers W w1 ∧ KeepsWalks W w1) := fun w1 hb1 => ⟨KeepsOthers.of_grownBy (grown_of_below hb1) (fun j o e => by cases e), KeepsWalks.of_grownBy (grown_of_below hb1) (fun j o e => by cases e)⟩
      clear hl hlt hR
      cases hbd : bdB s x.1 with
      | true =>
        rw [hbd] at CI hsn
        clear hrow hv
        gi_wp2_with (refine ⟨trivial, ?_⟩; gi_at_call 27; refine (CI _).mono ?_; rintro e w2 ⟨rfl, hb1⟩; have L1 := hL.kept (No := fun _ => True) (Keep.of hb1) ⟨trivial, trivial, trivial⟩; have c1 := L1.bx.cell; have c2 := L1.bz.cell; have f1 := L1.bx.frozen; have f2 := L1.bz.frozen)
        have e2 : badOf ((pre ++ [x]).map (rA s)) = (x.1 : Int) := by rw [e1, hsn]; rfl
        refine ⟨((HO.out _ hb1).1.trans (others_set2 w2 w.heap.size (.slice none 0 0) 3)).from _, rfl, 3, .inl ⟨rfl, by rw [e2]; omega, by simp; omega⟩, L1.set _ _, ?_⟩
        exact keep_set2 (No := fun g => g < w.heap.size) (S := w.heap.size) ((hkw.sub (fun g q => by have := HSL.out; have q' : g < w.heap.size := q; exact ⟨by omega, by omega⟩)).trans (Keep.of hb1)) ⟨by omega, by omega⟩ (.slice none 0 0) 3
      | false =>
        rw [hbd] at CI hsn
        have e2 : badOf ((pre ++ [x]).map (rA s)) < 0 := by rw [e1, hsn]; simp
        obtain ⟨o, c, rfl⟩ := ownsRow_slice hrow
        by_cases h200 : pre.length = 200
        · have h200' : ((pre.length : Int) == 200) = true := by simp; omega
          have H2 : Hid (pre.length = 200) := h200
          clear h200 hrow hln
          gi_wp2_with (refine ⟨trivial, ?_⟩; gi_at_call 27; refine (CI _).mono ?_; rintro e w2 ⟨rfl, hb1⟩; have L1 := hL.kept (No := fun _ => True) (Keep.of hb1) ⟨trivial, trivial, trivial⟩; have cv := (boxed_keep (No := fun _ => True) hv (Keep.of hb1) trivial).cell; have c1 := L1.bx.cell; have c2 := L1.bz.cell; have f1 := L1.bx.frozen; have f2 := L1.bz.frozen)
          refine ⟨((HO.out _ hb1).1.trans (others_set2 w2 w.heap.size (.slice none 0 0) 14)).from _, rfl, 14, .inr ⟨rfl, e2, by simp; exact H2.out⟩, L1.set _ _, ?_⟩
          exact keep_set2 (No := fun g => g < w.heap.size) (S := w.heap.size) ((hkw.sub (fun g q => by have := HSL.out; have q' : g < w.heap.size := q; exact ⟨by omega, by omega⟩)).trans (Keep.of hb1)) ⟨by omega, by omega⟩ (.slice none 0 0) 14
        · have h200' : ((pre.length : Int) == 200) = false := by simp; omega
          have hKs : ∀ g, (fun g => g < WL.heap.size ∧ g ≠ w.heap.size + 3) g → g < WL.heap.size ∧ g ≠ w.heap.size + 3 := fun g q => q
          have hone : ∀ u ∈ ([.int .i64 (rn s x.1 : Int)] : List Value), u.oneCell' = true := by simp [Value.oneCell']
          have hks := hkw.size
          gi_wp2_with (first
            | (refine ⟨trivial, ?_⟩; gi_at_call 27; refine (CI _).mono ?_; rintro e w2 ⟨rfl, hb1⟩; have L1 := hL.kept (No := fun _ => True) (Keep.of hb1) ⟨trivial, trivial, trivial⟩; have hv1 := boxed_keep (No := fun _ => True) hv (Keep.of hb1) trivial; have hr1 := own_below hrow hb1; have cv := hv1.cell; have h6 := new1 w2 (rn s x.1); have hz2' := hb1.size)
            | (gi_at_builtin; refine wpListIn_append_own _ rfl _ _ 25 rfl WL.heap.size 3 i0 (.int .i64 0) 1 8 Try.underlying25 hi hz0 hz1 hz2 rfl (by decide) _ _ _ rfl (hr1.alloc _) ⟨w2.heap.size, 0, none⟩ 1 1 [.int .i64 (rn s x.1 : Int)] rfl rfl h6 hone (by unfold maxLen; omega) (by omega) (by simp; omega) ?_; intro v' w3 hown' hgrow _; obtain ⟨g', cap', rfl⟩ := ownsRow_succ hown'; obtain ⟨hv3, hv4, hr4, hk4, hb4⟩ := boxed_app hv1 (by decide) hr1 hown' hgrow hKs; have hc1 := hv3.cell; have hf1 := hv3.frozen))
          have kW : ∀ {A B : World}, KeepsOthers A B → KeepsWalks A B := fun h => ⟨h.size, fun k o hk hw => h.same k o hk (Obj.not_cells_of_walk hw)⟩
          have kk : Keep (fun g => g < WL.heap.size ∧ g ≠ w.heap.size + 3) W _ := (Keep.of hb1).trans hb4
          refine ⟨((HO.out _ hb1).1.trans hk4).from _, ⟨kk, (HO.out _ hb1).2.trans (kW hk4)⟩, ⟨_, hv4, ?_, trivial⟩, by simp; omega, e2, L1.kept hb4 (by have := HSL.out; exact ⟨⟨by omega, by omega⟩, ⟨by omega, by omega⟩, ⟨by omega, by omega⟩⟩), hkw.trans kk⟩
          rw [ints_snoc, List.length_append]
          exact hr4
    case done =>
      rintro D xs W hD hxs ⟨⟨v, hv, hrow, _⟩, hln, hb0, hL, hkw⟩ hK
      obtain ⟨o, cp, rfl⟩ := ownsRow_slice hrow
      have eR : R = (xs.map (rA s), 0) := by
        rw [← hR, ← hxs]
        unfold cdL
        rw [cdE_ok hb0 (by simpa using hln), if_pos rfl]
      subst eR
      have cv := hv.cell
      have c1 := hL.bx.cell
      have c2 := hL.bz.cell
      have f1 := hL.bx.frozen
      have f2 := hL.bz.frozen
      have HZ : Hid (_ ∧ _ ∧ _) := ⟨hL.set (.slice o xs.length cp) 0, keep_set2 (S := w.heap.size) (hkw.sub (No' := fun g => g < w.heap.size) (fun g q => by have := HSL.out; exact ⟨by omega, by omega⟩)) ⟨by omega, by omega⟩ (.slice o xs.length cp) 0, others_set2 W w.heap.size (.slice o xs.length cp) 0⟩
      have HRW : Hid ((set2 W w.heap.size (.slice o xs.length cp) 0).ownsRow WL.heap.size 3 1 (.slice o xs.length cp) xs.length (ints (xs.map (rA s)))) := by
        have q1 := hrow.kept (grownBy_setCell' W (w.heap.size + 1) (.slice o xs.length cp)) (.inr (hL.bx.not_row (by decide) hrow).symm)
        have q2 : Boxed (W.setCell ⟨w.heap.size + 1, 0, none⟩ (.slice o xs.length cp)) (w.heap.size + 2) 22 _ := hL.bz.other (by omega) _
        exact q1.kept (grownBy_setCell' _ (w.heap.size + 2) _) (.inr (q2.not_row (by decide) q1).symm)
      clear hR hrow hb0
      go_wp2
      obtain ⟨LZ, kZ, kO⟩ := HZ.out
      have hK2 := kO.same D _ hK rfl
      refine ⟨by simp, .inl ⟨_, _, rfl, run_takeDeferred hK2, ?_⟩⟩
      have kD : Keep (fun g => g < WL.heap.size) _ (World.putObj _ D (.deferred none)) := (keepK_b (w := WL) (fun g q => q) _ D _ _ hD hK2 rfl rfl).1
      have LD := LZ.kept kD (by have := HSL.out; exact ⟨by omega, by omega, by omega⟩)
      have rD := ownsRow_putObj HRW.out (.deferred none) hK2 rfl
      have o0 := LD.bx.cell
      have o1 : World.cell? _ ⟨w.heap.size + 1 + 1, 0, none⟩ = _ := LD.bz.cell
      unfold set2 at o0 o1
      exact ⟨.tuple #[.slice o xs.length cp, .int .i64 0], by simp [results, Try.results11, go_sem, o0, o1], _, rfl, by rw [← hxs, List.length_map]; exact ownsRow_base rD (by have := HSL.out; omega), BW.trans ((kZ.trans (kD.sub (fun g q => by have := HSL.out; have q' : g < w.heap.size := q; show g < WL.heap.size; omega))).below (by have := HSL.out; omega) (fun g q => q))⟩
    case stop =>
      rintro D cd pre W hD hpre ⟨rfl, z, hz, hL, hkw⟩ hK
      have eR : R = ([], z) := by
        rw [← hR]
        unfold cdL
        rcases hz with ⟨rfl, g1, g2⟩ | ⟨rfl, g1, g2⟩
        · rw [cdE_bad hpre g1 (by simpa using g2), if_neg (by omega)]
        · rw [cdE_big hpre g1 (by simpa using g2), if_neg (by omega)]
      subst eR
      gi_wp2
      refine ⟨by simp, .inl ⟨_, _, rfl, run_takeDeferred hK, ?_⟩⟩
      have kD : Keep (fun g => g < WL.heap.size) W (W.putObj D (.deferred none)) := (keepK_b (w := WL) (fun g q => q) _ D _ _ hD hK rfl rfl).1
      have LD := hL.kept kD (by have := HSL.out; exact ⟨by omega, by omega, by omega⟩)
      have o0 := LD.bx.cell
      have o1 : World.cell? _ ⟨w.heap.size + 1 + 1, 0, none⟩ = _ := LD.bz.cell
      exact ⟨.tuple #[.slice none 0 0, .int .i64 z], by simp [results, Try.results11, go_sem, o0, o1], _, rfl, World.ownsRow_nil _ _ _ _, BW.trans ((hkw.trans (kD.sub (fun g q => by have := HSL.out; have q' : g < w.heap.size := q; show g < WL.heap.size; omega))).below (by have := HSL.out; omega) (fun g q => q))⟩
theorem codes_any (s : ByteArray) (i j : Int) (w : World) (hs : s.size ≤ 140737488351232) (h1 : -9223372036854775808 ≤ i) (h2 : i ≤ 9223372036854775807) (h3 : -9223372036854775808 ≤ j) (h4 : j ≤ 9223372036854775807) :
    Calls Try.prog 11 #[.string s, .int .i64 i, .int .i64 j] w fun e w' => ∃ v, e = .returned (.tuple #[v, .int .i64 (cdR s i j).2]) ∧ w'.ownsRow w.heap.size 3 1 v (cdR s i j).1.length (ints (cdR s i j).1) ∧ Below w.heap.size w w' := callsIn_wide.1 (codes_in s i j w hs h1 h2 h3 h4)
end Go.Proofs.Ytbgbhogcjaodkaa

/- The walks of the reference's Len, Codes and Step. -/
namespace Go.Proofs.Ytbgbhogcjaodkaa
open Go.RowKit

theorem rbad30 (x y z : Int) (w : World) : Calls Try.prog 30 #[.agg #[.int .i64 x, .int .i64 y, .int .i64 z]] w fun e w' => e = .returned (.bool (z == 65533 && y == 1)) ∧ Below w.heap.size w w' := by
  cases h : (z == 65533) with
  | true =>
    go_enter Try.func30, Try.ntmps30
    go_wp2
    go_ret
    exact ⟨by simp, b1 _ _⟩
  | false =>
    go_enter Try.func30, Try.ntmps30
    go_wp2
    go_ret
    exact ⟨by simp, b1 _ _⟩
theorem bdB_of (s : ByteArray) (p : Nat) : (((rn s p : Nat) : Int) == 65533 && ((wd s p : Nat) : Int) == 1) = bdB s p := by
  unfold bdB
  rw [Bool.eq_iff_iff]
  simp
  omega
theorem cell_new3 {wA wB : World} {x y z : Value} {t : TypeId} (h : Below (wA.alloc (.cells #[x, y, z] t)).heap.size (wA.alloc (.cells #[x, y, z] t)) wB) : wB.cell? ⟨wA.heap.size, 1, none⟩ = some y ∧ wB.cell? ⟨wA.heap.size, 2, none⟩ = some z :=
  ⟨(h.cell (by simp)).trans (new_cell wA [x, y, z] t 1 _ rfl).1, (h.cell (by simp)).trans (new_cell wA [x, y, z] t 2 _ rfl).1⟩
set_option maxRecDepth 100000 in
set_option maxHeartbeats 4000000 in
theorem rlen_any (s : ByteArray) (i j : Int) (w : World) (hs : s.size ≤ 140737488351232) (h1 : -9223372036854775808 ≤ i) (h2 : i ≤ 9223372036854775807) (h3 : -9223372036854775808 ≤ j) (h4 : j ≤ 9223372036854775807) :
    Calls Try.prog 10 #[.string s, .int .i64 i, .int .i64 j] w fun e w' => e = .returned (.tuple #[.int .i64 (lenR s i j).1, .int .i64 (lenR s i j).2.1, .int .i64 (lenR s i j).2.2]) ∧ Below w.heap.size w w' := by
  have D : ∀ x : Int, (x = i ∨ x = j) → ∀ W, Calls Try.prog 28 #[.int .i64 x, .int .i64 s.size] W fun e w' => e = .returned (.int .i64 (mt s.size x)) ∧ w' = W := fun x hx W => means_any s.size x W hs (by omega) (by omega)
  have hmt := mt_le hs h1 h2
  obtain ⟨R, hR⟩ : ∃ R, lenR s i j = R := ⟨_, rfl⟩
  rw [hR]
  unfold lenR at hR
  generalize mt s.size = M at D hmt hR
  have q2 : IntKind.i64.wrap ((s.size : Int) + 1) = (s.size : Int) + 1 := by rw [IntKind.wrap_i64]; omega
  by_cases hE : M i < 1 ∨ (s.size : Int) + 1 < M i ∨ (s.size : Int) < M j
  · rw [if_pos hE] at hR
    subst hR
    by_cases hE1 : M i < 1
    · clear hE
      go_enter Try.func10, Try.ntmps10
      go_wp2_with (go_at_call 28; refine (D _ (by simp) _).mono ?_; rintro e w1 ⟨rfl, hw1⟩; subst w1)
      refine bodyPost_ret (v := .tuple #[_, _, _]) (by simp [results, Try.results10, go_sem]; exact ⟨rfl, rfl, rfl⟩) rfl ?_
      exact ⟨rfl, Below.refl _ _⟩
    · by_cases hE2 : (s.size : Int) + 1 < M i
      · clear hE
        go_enter Try.func10, Try.ntmps10
        go_wp2_with (go_at_call 28; refine (D _ (by simp) _).mono ?_; rintro e w1 ⟨rfl, hw1⟩; subst w1)
        refine bodyPost_ret (v := .tuple #[_, _, _]) (by simp [results, Try.results10, go_sem]; exact ⟨rfl, rfl, rfl⟩) rfl ?_
        exact ⟨rfl, Below.refl _ _⟩
      · have hE3 : (s.size : Int) < M j := by omega
        clear hE
        go_enter Try.func10, Try.ntmps10
        go_wp2_with (go_at_call 28; refine (D _ (by simp) _).mono ?_; rintro e w1 ⟨rfl, hw1⟩; subst w1)
        refine bodyPost_ret (v := .tuple #[_, _, _]) (by simp [results, Try.results10, go_sem]; exact ⟨rfl, rfl, rfl⟩) rfl ?_
        exact ⟨rfl, Below.refl _ _⟩
  · rw [if_neg hE] at hR
    have hE1 : ¬ M i < 1 := by omega
    have hE2 : ¬ (s.size : Int) + 1 < M i := by omega
    have hE3 : ¬ (s.size : Int) < M j := by omega
    obtain ⟨a, ha⟩ : ∃ a : Nat, M i = (a : Int) + 1 := ⟨(M i).toNat - 1, by omega⟩
    rw [ha, show ((a : Int) + 1).toNat - 1 = a by omega] at hR
    have HA : Hid (M i = (a : Int) + 1) := ha
    clear ha
    have hbs : M j ≤ s.size := by omega
    go_enter Try.func10, Try.ntmps10
    go_wp2_with (go_at_call 28; refine (D _ (by simp) _).mono ?_; rintro e w1 ⟨rfl, hw1⟩; subst w1)
    go_loopw [9, 11] (fun av nv wr => ∃ (p : Nat) (done : List Rn), av = .int .i64 ((p : Int) + 1) ∧ nv = .int .i64 (done.length : Nat) ∧ done.length ≤ p ∧ badOf done < 0 ∧ Hid (bw s a (M j) = done ++ bw s p (M j)) ∧ Hid (Below w.heap.size w wr)) (fun av _ _ => s.size + 2 - (intOf av).toNat)
    case atStart => exact ⟨a, [], by rw [HA.out], rfl, by simp, by unfold badOf; simp, rfl, Below.refl _ _⟩
    case round =>
      obtain ⟨p, done, rfl, rfl, hdl, hb0, HB, HW⟩ := hrel
      clear D
      by_cases hp : (p : Int) + 1 ≤ M j
      · have hps : p < s.size := by omega
        have CA := fun W => rat_any s p W hps hs
        unfold RAt at CA
        have CB := fun W => rbad30 (p : Int) (wd s p) (rn s p) W
        rw [bdB_of] at CB
        have hwp := wd_pos s p
        have hwl := wd_le s p hps
        have hrl := rn_le s p
        have w1 : IntKind.i64.wrap ((p : Int) + 1 - 1) = (p : Int) := by rw [IntKind.wrap_i64]; omega
        have w2 : IntKind.i64.wrap ((p : Int) + 1 + (wd s p : Int)) = ((p + wd s p : Nat) : Int) + 1 := by rw [IntKind.wrap_i64]; omega
        have w3 : IntKind.i64.wrap ((done.length : Int) + 1) = ((done.length + 1 : Nat) : Int) := by rw [IntKind.wrap_i64]; omega
        have HB2 : Hid (bw s a (M j) = (done ++ [(p, wd s p, rn s p)]) ++ bw s (p + wd s p) (M j)) := by show _ = _; rw [HB.out, bw_at hps hp]; simp
        have hsn := badOf_snoc done (p, wd s p, rn s p) hb0
        rw [show isBad (p, wd s p, rn s p) = bdB s p from isBad_at s ⟨p, hps⟩] at hsn
        have HSN : Hid _ := hsn
        clear hsn
        have HP : Hid (p + wd s p ≤ s.size ∧ 1 ≤ wd s p) := ⟨hwl, hwp⟩
        clear hwl hwp
        cases hbd : bdB s p with
        | true =>
          rw [hbd] at CB HSN
          have eR : R = (0, (p : Int) + 1, 0) := by
            have e2 : badOf (done ++ [(p, wd s p, rn s p)]) = (p : Int) := HSN.out
            rw [← hR]
            unfold lenA
            rw [HB2.out, badOf_app _ _ (by rw [e2]; omega), e2, if_neg (by omega)]
          subst eR
          clear hR
          generalize wd s p = DD at *
          generalize rn s p = RR at *
          go_wp2_with (first
            | (go_at_call 29; refine (CA _).mono ?_; rintro e wA ⟨rfl, hbA⟩)
            | (go_at_call 30; refine (CB _).mono ?_; rintro e wB ⟨rfl, hbB⟩))
          refine bodyPost_ret (v := .tuple #[_, _, _]) (by simp [results, Try.results10, go_sem]; exact ⟨rfl, rfl, rfl⟩) rfl ?_
          exact ⟨rfl, bthen (bthen (bthen HW.out HW.out.size hbA) (Nat.le_trans HW.out.size hbA.size) (b1 _ _)) (by have := HW.out.size; have := hbA.size; simp; omega) hbB⟩
        | false =>
          rw [hbd] at CB HSN
          have e2 : badOf (done ++ [(p, wd s p, rn s p)]) < 0 := by rw [HSN.out]; simp
          have HE2 : Hid (badOf (done ++ [(p, wd s p, rn s p)]) < 0) := e2
          clear e2 HSN
          generalize wd s p = DD at *
          generalize rn s p = RR at *
          go_wp2_with (first
            | (go_at_call 29; refine (CA _).mono ?_; rintro e wA ⟨rfl, hbA⟩)
            | (go_at_call 30; refine (CB _).mono ?_; rintro e wB ⟨rfl, hbB⟩; have k1 := (cell_new3 hbB).1))
          go_roundw
          case rel => exact ⟨p + DD, done ++ [(p, DD, RR)], by simp, by simp, by have := HP.out; simp; omega, HE2.out, HB2, bthen (bthen (bthen HW.out HW.out.size hbA) (Nat.le_trans HW.out.size hbA.size) (b1 _ _)) (by have := HW.out.size; have := hbA.size; simp; omega) hbB⟩
          case measure => have := HP.out; simp [intOf]; omega
      · have eR : R = ((done.length : Int), 0, 0) := by
          rw [← hR]
          unfold lenA
          rw [HB.out, bw_stop hp, List.append_nil, if_pos hb0]
        subst eR
        clear hR
        go_wp2
        refine bodyPost_ret (v := .tuple #[_, _, _]) (by simp [results, Try.results10, go_sem]; exact ⟨rfl, rfl, rfl⟩) rfl ?_
        exact ⟨rfl, HW.out⟩
end Go.Proofs.Ytbgbhogcjaodkaa

/- All contracts of the parser's functions; Parse of any text. -/
import Derived.Test.YtlgkfhipobdcfabGreatDoorCg34
import Derived.Test.YtlgkfhipobdcfabGreatDoorCg35
import Derived.Test.YtlgkfhipobdcfabGreatDoorCg14
import Derived.Test.YtlgkfhipobdcfabGreatDoorCg22
import Derived.Test.YtlgkfhipobdcfabGreatDoorCg16
namespace Go.Proofs.YtlgkfhipobdcfabGreatDoor
open Go.RowKit

theorem cc_every (n : Nat) : CC n := cc_all (fun N H b m T l W h hr => assign_any N H b m T l W h hr) n
theorem hc_every : HC := fun b m T l W h => chunk_any cc_every b m T l W h
/-- Parse of any text. -/
theorem parse_any (s : ByteArray) (w : World) (hs : s.size ≤ 9223372036854775807) :
    Calls Tryz.prog 6 #[.string s] w fun e W' => ∃ k t n p a c ks, e = .returned (.tuple #[(.agg #[.int .i64 (k), .string ⟨(t).toArray⟩, .int .i64 (n), .int .i64 (p), .slice a ks.len c]), .agg #[.int .i64 (prT s.data.toList).2.1, .int .i64 (prT s.data.toList).2.2]]) ∧ (prT s.data.toList).1 = one k t n p ks ∧ TN 25 W' (fun g => w.heap.size ≤ g) k t n p (.slice a ks.len c) ks ∧ Below w.heap.size w W' := Parse_any hc_every s w hs
end Go.Proofs.YtlgkfhipobdcfabGreatDoor

/- The walk of Text, where the text has a tree. -/
namespace Go.Proofs.YtlgkfhipobdcfabGreatDoor
open Go.RowKit

theorem TN.cap {w : World} {P : Nat → Prop} {k : Int} {t : List UInt8} {n p : Int} {a : Option Addr} {c : Nat} {ks : F} (h : TN 25 w P k t n p (.slice a ks.len c) ks) : ks.len ≤ c ∧ c ≤ maxLen := by
  obtain ⟨_, xs, own, _⟩ := h.out
  rcases own.2 with ⟨e1, e2⟩ | ⟨g, cap, cur, e1, _, _, h4, h5, _⟩
  · injection e1 with _ _ e3
    exact ⟨by omega, by rw [e3]; exact Nat.zero_le _⟩
  · injection e1 with _ _ e3
    rw [e3]
    exact ⟨h4, h5⟩
theorem strs_bytes (l : Tks) : (l.map fun t => (⟨t.toArray⟩ : ByteArray)).map (·.data.toList) = l := by
  rw [List.map_map]
  exact (List.map_congr_left (fun t _ => rfl)).trans (List.map_id l)
set_option maxRecDepth 20000 in
set_option maxHeartbeats 8000000 in
theorem Text_ok (s : ByteArray) (w : World) (hs : s.size ≤ 9223372036854775807) {k : Int} {t : List UInt8} {n p : Int} {ks : F} (hp : prT s.data.toList = (one k t n p ks, 0, 0)) (N : Nat) (hN : N ≤ 800000) (hz : ks.siz < N) (hw : (one k t n p ks).wf = true) (tks : Tks) (ht : tkB fmS quoQ N k t n ks = tks) (hn0 : 0 < tks.length) (hL : tks.length ≤ 1000000) (hj : (Lib.join tks [32]).length ≤ 140737488355328) :
    Calls Tryz.prog 10 #[.string s] w fun e w' => e = .returned (.tuple #[.string ⟨(Lib.join tks [32]).toArray⟩, .agg #[.int .i64 0, .int .i64 0]]) ∧ Below w.heap.size w w' := by
  have C1 := parse_any s (w.alloc (.cells #[.int .i64 0, .int .i64 0] 28)) hs
  rw [hp] at C1
  have R0 := Bx.new w 28 #[.int .i64 0, .int .i64 0]
  have K0 : Below w.heap.size w (w.alloc (.cells #[.int .i64 0, .int .i64 0] 28)) := (Below.refl _ w).alloc (Nat.le_refl _) _
  obtain ⟨W0, hW0⟩ : ∃ W0, w.alloc (.cells #[.int .i64 0, .int .i64 0] 28) = W0 := ⟨_, rfl⟩
  rw [hW0] at C1 R0 K0
  obtain ⟨A, hA⟩ : ∃ A, w.heap.size = A := ⟨_, rfl⟩
  rw [hA] at R0 K0
  have hnq : ∀ W, (binOp .neq 28 (.agg #[.int .i64 0, .int .i64 0]) (.agg #[.int .i64 0, .int .i64 0])).run Tryz.prog W = .ok (.bool false) W := fun W => by rw [neq27]; simp
  have HR0 : Hid (Bx A 28 #[.int .i64 0, .int .i64 0] W0 ∧ Below A w W0) := ⟨R0, K0⟩
  clear R0 K0
  go_enter Tryz.func10, Tryz.ntmps10
  go_wp2_with fail
  refine C1.mono ?_; rintro e w1 ⟨k', t', n', p', a, c, ks', rfl, he, hT, hB⟩
  simp only [one, F.cons.injEq] at he
  obtain ⟨rfl, rfl, rfl, rfl, rfl, -⟩ := he
  have R1 := HR0.out.1.below hB
  have K1 : Below A w w1 := HR0.out.2.trans (hB.mono (by have := HR0.out.2.size; have := HR0.out.1.lt; omega))
  have hA1 : A < w1.heap.size := R1.lt
  have B1 := Bx.new w1 25 #[.int .i64 k, .string ⟨t.toArray⟩, .int .i64 n, .int .i64 p, .slice a ks.len c]
  obtain ⟨X, hX⟩ : ∃ X, w1.heap.size = X := ⟨_, rfl⟩
  have e1 : (w1.alloc (.cells #[.int .i64 (k), .string ⟨(t).toArray⟩, .int .i64 (n), .int .i64 (p), .slice a ks.len c] 25)).heap.size = X + 1 := by simp [hX]
  have B2 := Bx.new (w1.alloc (.cells #[.int .i64 (k), .string ⟨(t).toArray⟩, .int .i64 (n), .int .i64 (p), .slice a ks.len c] 25)) 28 #[.int .i64 0, .int .i64 0]
  have B1' := B1.alloc (.cells #[.int .i64 0, .int .i64 0] 28)
  have R2 := (R1.alloc (.cells #[.int .i64 (k), .string ⟨(t).toArray⟩, .int .i64 (n), .int .i64 (p), .slice a ks.len c] 25)).alloc (.cells #[.int .i64 0, .int .i64 0] 28)
  have K2 := (K1.alloc (by omega) (.cells #[.int .i64 (k), .string ⟨(t).toArray⟩, .int .i64 (n), .int .i64 (p), .slice a ks.len c] 25)).alloc (by rw [e1]; omega) (.cells #[.int .i64 0, .int .i64 0] 28)
  have T2 := (hT.mono (Q := fun g => g < X) (fun g _ hl => by omega))
  obtain ⟨p0, p1, p2, p3, p4⟩ := B1'.five
  have y0 := B2.c 0 _ rfl
  have y1 := B2.c 1 _ rfl
  rw [e1] at y0 y1
  rw [hX] at p0 p1 p2 p3 p4
  obtain ⟨W2, hW2⟩ : ∃ W2, (w1.alloc (.cells #[.int .i64 (k), .string ⟨(t).toArray⟩, .int .i64 (n), .int .i64 (p), .slice a ks.len c] 25)).alloc (.cells #[.int .i64 0, .int .i64 0] 28) = W2 := ⟨_, rfl⟩
  have hZ2 : W2.heap.size = X + 2 := by rw [← hW2]; simp [hX]
  rw [hW2] at R2 K2
  have Rv2 : Rv W2 (fun g => g < X) a ks := T2.rv.keep (by rw [hZ2]; omega) fun g hg _ => by
    rw [← hW2]
    exact ((Below.refl w1.heap.size w1).alloc (Nat.le_refl _) _ |>.alloc (by simp) _).block g (by omega)
  have HS : Hid (Bx A 28 #[.int .i64 0, .int .i64 0] W2 ∧ Below A w W2 ∧ Rv W2 (fun g => g < X) a ks ∧ ks.len ≤ c ∧ c ≤ maxLen) := ⟨R2, K2, Rv2, hT.cap⟩
  have HW2 : Hid ((w1.alloc (.cells #[.int .i64 (k), .string ⟨(t).toArray⟩, .int .i64 (n), .int .i64 (p), .slice a ks.len c] 25)).alloc (.cells #[.int .i64 0, .int .i64 0] 28) = W2) := hW2
  clear C1 hT hB R1 K1 B1 B2 B1' R2 K2 T2 Rv2 e1 hW2
  go_wp2_with fail
  rw [HW2.out]
  have B3 := Bx.new W2 46 #[.slice none 0 0]
  rw [hZ2] at B3
  have R3 := HS.out.1.alloc (.cells #[.slice none 0 0] 46)
  have K3 := HS.out.2.1.alloc (by rw [hZ2]; omega) (.cells #[.slice none 0 0] 46)
  have Rv3 : Rv (W2.alloc (.cells #[.slice none 0 0] 46)) (fun g => g < X + 2) a ks := by
    obtain ⟨xs, h1, h2⟩ := HS.out.2.2.1.ex
    refine Rv.keep (w := W2) ⟨xs, h1.mono (fun g hg _ => by omega), fun hne => ?_⟩ (by simp) (fun g _ hl => ((Below.refl W2.heap.size W2).alloc (Nat.le_refl _) _).block g hl)
    obtain ⟨g, o, e, hP, hg, hc⟩ := h2 hne
    exact ⟨g, o, e, by omega, hg, hc⟩
  have T3 : Te (X + 2) (fun g => X + 2 < g) [] (W2.alloc (.cells #[.slice none 0 0] 46)) := ⟨⟨_, B3, World.ownsRow_nil _ _ _ _, fun g hg => by simp [Value.ownBlock] at hg⟩, fun x hx => by omega, fun x hx => by simp [hZ2] at hx; omega⟩
  have C3 := (tell_all N hN).2.2 (X + 2) _ [] _ k t n p a c ks T3 Rv3 hz hw HS.out.2.2.2 (by rw [ht]; simpa using hL)
  rw [ht] at C3
  obtain ⟨W3, hW3⟩ : ∃ W3, W2.alloc (.cells #[.slice none 0 0] 46) = W3 := ⟨_, rfl⟩
  rw [hW3] at C3 R3 K3 T3 ⊢
  have HS3 : Hid (Bx A 28 #[.int .i64 0, .int .i64 0] W3 ∧ Below A w W3 ∧ X + 2 < W3.heap.size) := ⟨R3, K3, T3.lt⟩
  clear B3 R3 K3 Rv3 T3 HS HW2 hW3 hZ2 p0 p1 p2 p3 p4 y0 y1
  refine C3.mono ?_; rintro e w4 hq
  obtain ⟨v, b4, own4, hP4⟩ := hq.2.1.ex
  have R4 := HS3.out.1.ky hq.2.2 (by omega)
  have K4 : Below A w w4 := HS3.out.2.1.trans ⟨hq.2.2.os, hq.2.2.tape, hq.2.2.output, hq.2.2.size, fun g hg => hq.2.2.block g (by have := HS3.out.1.lt; omega) (by omega)⟩
  obtain ⟨rfl, -⟩ := hq
  simp only [List.nil_append] at own4
  obtain ⟨g, cap, hv, hgl, hcap, hcells⟩ : ∃ g cap, v = .slice (some ⟨g, 0, none⟩) tks.length cap ∧ g < w4.heap.size ∧ tks.length ≤ cap ∧ ∀ (j : Nat) (x : ByteArray), (tks.map fun t => (⟨t.toArray⟩ : ByteArray))[j]? = some x → w4.cell? ⟨g, 0 + j, none⟩ = some (.string x) := by
    rcases own4.2 with ⟨e1, e2⟩ | ⟨g, cap, cur, e1, _, h3, h4, _, _, r4⟩
    · omega
    · refine ⟨g, cap, e1, (Array.getElem?_eq_some_iff.1 h3).1, h4, fun j x hx => ?_⟩
      rw [cell_of_row w4 g _ cur 9 (0, 0) h3, Nat.zero_add]
      have hs4 : (strs tks)[j]? = some (.string x) := by
        simp only [List.getElem?_map, Option.map_eq_some_iff] at hx
        obtain ⟨y, hy, rfl⟩ := hx
        simp [strs, hy]
      rw [← r4, List.getElem?_take] at hs4
      split at hs4
      · simpa using hs4
      · cases hs4
  subst hv
  have d0 := b4.c 0 _ rfl
  have C5 := Tryz.strings_Join g 0 cap (tks.map fun t => (⟨t.toArray⟩ : ByteArray)) ⟨#[32]⟩ w4 hcells hgl (by simp; omega) (by simpa using hcap) (by rw [strs_bytes]; exact hj)
  rw [strs_bytes, List.length_map] at C5
  have HR4 : Hid (Bx A 28 #[.int .i64 0, .int .i64 0] w4 ∧ Below A w w4) := ⟨R4, K4⟩
  clear C3 HS3 own4 hP4 R4 K4 b4 hcells
  go_wp2_with fail
  refine C5.mono ?_; rintro e w5 ⟨rfl, hb5⟩
  have R5 := HR4.out.1.below hb5
  have r0 := R5.c 0 _ rfl
  have r1 := R5.c 1 _ rfl
  have f0 := R5.f 0
  have f1 := R5.f 1
  have HB5 : Hid (Below A w w5) := HR4.out.2.trans (hb5.mono (Nat.le_of_lt HR4.out.1.lt))
  have E5 := (R5.put (j := 0) (.int .i64 0)).put (j := 1) (.int .i64 0)
  have z0 := E5.c 0 _ rfl
  have z1 := E5.c 1 _ rfl
  clear C5 hb5 R5 HR4 E5
  go_wp2
  refine bodyPost_ret (v := .tuple #[.string ⟨(Lib.join tks [32]).toArray⟩, .agg #[.int .i64 0, .int .i64 0]]) (by simp [results, Tryz.results10, go_sem, z0, z1]) rfl ⟨rfl, ?_⟩
  rw [hA]
  exact (HB5.out.setCell (Nat.le_refl _) _).setCell (Nat.le_refl _) _
end Go.Proofs.YtlgkfhipobdcfabGreatDoor

/- The walk of same: trees that are the same but for their places. -/
namespace Go.Proofs.YtlgkfhipobdcfabGreatDoor
open Go.RowKit

/-- The same but for the places. -/
def F.sam : F → F → Prop
  | .nil, .nil => True
  | .cons k t n _ ks r, .cons k' t' n' _ ks' r' => (k = k' ∧ t = t' ∧ n = n' ∧ F.sam ks ks') ∧ F.sam r r'
  | _, _ => False
theorem F.sam_len : ∀ f g : F, f.sam g → f.len = g.len
  | .nil, .nil, _ => rfl
  | .cons _ _ _ _ _ r, .cons _ _ _ _ _ r', h => by simp only [F.len]; rw [F.sam_len r r' h.2]
  | .nil, .cons _ _ _ _ _ _, h => h.elim
  | .cons _ _ _ _ _ _, .nil, h => h.elim
theorem F.sam_refl : ∀ f : F, f.sam f
  | .nil => trivial
  | .cons _ _ _ _ ks r => ⟨⟨rfl, rfl, rfl, ks.sam_refl⟩, r.sam_refl⟩

set_option maxRecDepth 20000 in
set_option maxHeartbeats 4000000 in
theorem same_any : ∀ (N : Nat) (ks ks2 : F), ks.siz ≤ N → ks.len ≤ maxLen → ∀ (w : World) (P P2 : Nat → Prop) (k : Int) (t : List UInt8) (n p p2 : Int) (a a2 : Option Addr) (c c2 : Nat), Rw w P a 0 ks → Rw w P2 a2 0 ks2 → ks.sam ks2 →
    Calls Tryz.prog 8 #[(.agg #[.int .i64 (k), .string ⟨(t).toArray⟩, .int .i64 (n), .int .i64 (p), .slice a ks.len c]), (.agg #[.int .i64 (k), .string ⟨(t).toArray⟩, .int .i64 (n), .int .i64 (p2), .slice a2 ks2.len c2])] w fun e w' => e = .returned (.bool true) ∧ Below w.heap.size w w' := by
  intro N
  induction N using Nat.strongRecOn with
  | _ N IH =>
    intro ks ks2 hs hN w P P2 k t n p p2 a a2 c c2 hR hR2 hO
    have hl : ks.len ≤ 9223372036854775807 := hN
    rw [← F.sam_len _ _ hO]
    obtain ⟨V, hV⟩ : ∃ V, w.heap.size = V := ⟨_, rfl⟩
    have B0 := Bx.new w 25 #[.int .i64 k, .string ⟨t.toArray⟩, .int .i64 n, .int .i64 p, .slice a ks.len c]
    have e1 : (w.alloc (.cells #[.int .i64 (k), .string ⟨(t).toArray⟩, .int .i64 (n), .int .i64 (p), .slice a ks.len c] 25)).heap.size = V + 1 := by simp [hV]
    have B1 := Bx.new (w.alloc (.cells #[.int .i64 (k), .string ⟨(t).toArray⟩, .int .i64 (n), .int .i64 (p), .slice a ks.len c] 25)) 25 #[.int .i64 k, .string ⟨t.toArray⟩, .int .i64 n, .int .i64 p2, .slice a2 ks.len c2]
    have B0' := B0.alloc (.cells #[.int .i64 (k), .string ⟨(t).toArray⟩, .int .i64 (n), .int .i64 (p2), .slice a2 ks.len c2] 25)
    have K0 : Below V w ((w.alloc (.cells #[.int .i64 (k), .string ⟨(t).toArray⟩, .int .i64 (n), .int .i64 (p), .slice a ks.len c] 25)).alloc (.cells #[.int .i64 (k), .string ⟨(t).toArray⟩, .int .i64 (n), .int .i64 (p2), .slice a2 ks.len c2] 25)) := ((Below.refl V w).alloc (by omega) _).alloc (by rw [e1]; omega) _
    rw [e1] at B1
    rw [hV] at B0'
    obtain ⟨z0, z1, z2, z3, z4⟩ := B0'.five
    obtain ⟨mm0, mm1, mm2, mm3, mm4⟩ := B1.five
    go_enter Tryz.func8, Tryz.ntmps8
    go_wp2_with fail
    go_loopw [5] (fun iv wx => ∃ (i : Nat) (r r2 : F), iv = .int .i64 (i : Nat) ∧ i + r.len = ks.len ∧ Bx V 25 #[.int .i64 k, .string ⟨t.toArray⟩, .int .i64 n, .int .i64 p, .slice a ks.len c] wx ∧ Bx (V + 1) 25 #[.int .i64 k, .string ⟨t.toArray⟩, .int .i64 n, .int .i64 p2, .slice a2 ks.len c2] wx ∧ Hid (r.siz ≤ ks.siz ∧ r.sam r2 ∧ Rw wx P a i r ∧ Rw wx P2 a2 i r2 ∧ Below V w wx)) (fun iv _ => ks.len - (intOf iv).toNat)
    case atStart => exact ⟨0, ks, ks2, rfl, by omega, B0', B1, Nat.le_refl _, hO, hR.below (hV ▸ K0), hR2.below (hV ▸ K0), K0⟩
    case round =>
      obtain ⟨i, r, r2, rfl, hi, BX, BY, HR⟩ := hrel
      clear z0 z1 z2 z3 z4 mm0 mm1 mm2 mm3 mm4 B0 B1 B0' K0 e1
      obtain ⟨x0, x1, x2, x3, x4⟩ := BX.five
      obtain ⟨y0, y1, y2, y3, y4⟩ := BY.five
      cases r with
      | nil =>
        have h1 : ¬ (i : Int) < (ks.len : Int) := by simp only [F.len] at hi; omega
        go_wp2
        go_ret
        exact ⟨rfl, HR.out.2.2.2.2⟩
      | cons k' t' n' p' ks' r' =>
        simp only [F.len] at hi
        obtain ⟨hz, ho, hr, hrr, hb⟩ := HR.out
        simp only [F.siz] at hz
        cases r2 with
        | nil => exact ho.elim
        | cons k2 t2 n2 p2' ks2' r2' =>
        obtain ⟨⟨rfl, rfl, rfl, o3⟩, o4⟩ := ho
        obtain ⟨g, a', c', rfl, hg, c0, c1, c2', c3, c4, hT, hr'⟩ := hr.next
        obtain ⟨g2, a2', cc2, rfl, hg2, s0, s1, s2, s3, s4, hT2, hr2'⟩ := hrr.next
        have h1 : (i : Int) < (ks.len : Int) := by omega
        have wi : IntKind.i64.wrap ((i : Int) + 1) = (i : Int) + 1 := by rw [IntKind.wrap_i64]; omega
        have HN : Hid (r'.siz ≤ ks.siz ∧ r'.sam r2' ∧ Rw wr P (some ⟨g, 0, none⟩) (i + 1) r' ∧ Rw wr P2 (some ⟨g2, 0, none⟩) (i + 1) r2' ∧ Below V w wr) := ⟨by omega, o4, hr', hr2', hb⟩
        have hms : ks.len - (i + 1) < ks.len - i := by omega
        have hVl := BX.lt
        have hVl2 := BY.lt
        obtain ⟨Y, F, F1, F2⟩ := class_of wr
        have HC : Hid (∃ x, wr.drew = F x) := F2 _ (Below.refl _ _).drew
        have HB : Hid (∀ x, Bx V 25 #[.int .i64 k, .string ⟨t.toArray⟩, .int .i64 n, .int .i64 p, .slice (some ⟨g, 0, none⟩) ks.len c] (F x) ∧ Bx (V + 1) 25 #[.int .i64 k, .string ⟨t.toArray⟩, .int .i64 n, .int .i64 p2, .slice (some ⟨g2, 0, none⟩) ks.len c2] (F x)) := fun x => ⟨BX.below (F1 x), BY.below (F1 x)⟩
        have HF1 : Hid (∀ x, Below wr.heap.size wr (F x)) := F1
        have C : ∀ x, Calls Tryz.prog 8 #[(.agg #[.int .i64 (k'), .string ⟨(t').toArray⟩, .int .i64 (n'), .int .i64 (p'), .slice a' ks'.len c']), (.agg #[.int .i64 (k'), .string ⟨(t').toArray⟩, .int .i64 (n'), .int .i64 (p2'), .slice a2' ks2'.len cc2])] (F x) fun e w'' => e = .returned (.bool true) ∧ ∃ y, w'' = F y := fun x =>
          (IH ks'.siz (by omega) ks' ks2' (Nat.le_refl _) (Nat.le_trans hT.cap.1 hT.cap.2) (F x) P P2 k' t' n' p' p2' a' a2' c' cc2 (hT.rw0.below (F1 x)) (hT2.rw0.below (F1 x)) o3).mono fun e w' ⟨he, hw⟩ => ⟨he, F2 w' ((F1 x).trans (hw.mono (F1 x).size))⟩
        have v4 : ∀ x, (F x).cell? ⟨V, 4, none⟩ = some (.slice (some ⟨g, 0, none⟩) ks.len c) := fun x => ((F1 x).cell hVl).trans x4
        have w4 : ∀ x, (F x).cell? ⟨V + 1, 4, none⟩ = some (.slice (some ⟨g2, 0, none⟩) ks.len c2) := fun x => ((F1 x).cell hVl2).trans y4
        have d0 : ∀ x, (F x).cell? ⟨g, i * 5, none⟩ = some (.int .i64 k') := fun x => ((F1 x).cell hg).trans c0
        have d1 : ∀ x, (F x).cell? ⟨g, i * 5 + 1, none⟩ = some (.string ⟨t'.toArray⟩) := fun x => ((F1 x).cell hg).trans c1
        have d2 : ∀ x, (F x).cell? ⟨g, i * 5 + 2, none⟩ = some (.int .i64 n') := fun x => ((F1 x).cell hg).trans c2'
        have d3 : ∀ x, (F x).cell? ⟨g, i * 5 + 3, none⟩ = some (.int .i64 p') := fun x => ((F1 x).cell hg).trans c3
        have d4 : ∀ x, (F x).cell? ⟨g, i * 5 + 4, none⟩ = some (.slice a' ks'.len c') := fun x => ((F1 x).cell hg).trans c4
        have q0 : ∀ x, (F x).cell? ⟨g2, i * 5, none⟩ = some (.int .i64 k') := fun x => ((F1 x).cell hg2).trans s0
        have q1 : ∀ x, (F x).cell? ⟨g2, i * 5 + 1, none⟩ = some (.string ⟨t'.toArray⟩) := fun x => ((F1 x).cell hg2).trans s1
        have q2 : ∀ x, (F x).cell? ⟨g2, i * 5 + 2, none⟩ = some (.int .i64 n') := fun x => ((F1 x).cell hg2).trans s2
        have q3 : ∀ x, (F x).cell? ⟨g2, i * 5 + 3, none⟩ = some (.int .i64 p2') := fun x => ((F1 x).cell hg2).trans s3
        have q4 : ∀ x, (F x).cell? ⟨g2, i * 5 + 4, none⟩ = some (.slice a2' ks2'.len cc2) := fun x => ((F1 x).cell hg2).trans s4
        haveI : Nonempty Y := HC.out.elim fun x _ => ⟨x⟩
        go_wp2_with fail
        clear F1 F2 c0 c1 c2' c3 c4 s0 s1 s2 s3 s4 x0 x1 x2 x3 x4 y0 y1 y2 y3 y4 hT hT2 hr hrr hr' hr2' hb hR hR2 HR hN o3 o4 hO
        refine wp_class (F := F) (by kernel_rfl) (by kernel_rfl) HC.out ?_
        repeat (go_big_quiet_step (exact C _))
        refine wpQuiet_nil ?_
        intro _ hw'
        obtain ⟨x, rfl⟩ := hw'
        have K3 : Hid (Below wr.heap.size wr (F x)) := HF1.out x
        have B3 := HB.out x
        have B3 : Hid (Bx V 25 #[.int .i64 k, .string ⟨t.toArray⟩, .int .i64 n, .int .i64 p, .slice (some ⟨g, 0, none⟩) ks.len c] (F x) ∧ Bx (V + 1) 25 #[.int .i64 k, .string ⟨t.toArray⟩, .int .i64 n, .int .i64 p2, .slice (some ⟨g2, 0, none⟩) ks.len c2] (F x)) := HB.out x
        clear HF1 HB C v4 w4 d0 d1 d2 d3 d4 q0 q1 q2 q3 q4 HC
        generalize F x = w3 at *
        go_wp2_with fail
        go_round
        case rel =>
          refine ⟨i + 1, r', r2', by first | rfl | simp, by omega, B3.out.1, B3.out.2, HN.out.1, HN.out.2.1, HN.out.2.2.1.below K3.out, HN.out.2.2.2.1.below K3.out, HN.out.2.2.2.2.trans (K3.out.mono (by have := HN.out.2.2.2.2.size; omega))⟩
        case measure => first | omega | (simp only [intOf]; omega) | (simp; omega)
end Go.Proofs.YtlgkfhipobdcfabGreatDoor

/- The grammar does not look at places: over moved tokens the same trees but for the places. -/
namespace Go.Proofs.YtlgkfhipobdcfabGreatDoor

def F.z : F → F
  | .nil => .nil
  | .cons k t n _ ks r => .cons k t n 0 ks.z r.z
def tz (t : Tok) : Tok := ⟨t.k, t.t, t.v, 0⟩
def lz (l : List Tok) : List Tok := l.map tz
def PR.z : PR → PR
  | .ok f m => .ok f.z (lz m)
  | .bad _ => .bad 0
  | .out => .out
def J.z : J → J
  | .bk c a => .bk c a.z | .lst a => .lst a.z | .nms a => .nms a.z | .ifs a => .ifs a.z | .asg a => .asg a.z
  | .exl n f => .exl n f.z | .sufl f => .sufl f.z | .tab a => .tab a.z
  | j => j
theorem F.z_app : ∀ f g : F, (f.app g).z = f.z.app g.z
  | .nil, _ => rfl
  | .cons k t n p ks r, g => by simp only [F.app, F.z, F.z_app r g]
theorem F.z_len : ∀ f : F, f.z.len = f.len
  | .nil => rfl
  | .cons k t n p ks r => by simp only [F.z, F.len, F.z_len r]
theorem F.z_kind (f : F) : f.z.kind = f.kind := by cases f <;> rfl
theorem F.z_text (f : F) : f.z.text = f.text := by cases f <;> rfl
theorem F.z_at (f : F) : f.z.at = 0 := by cases f <;> rfl
theorem one_z (k : Int) (t : List UInt8) (n p : Int) (ks : F) : (one k t n p ks).z = one k t n 0 ks.z := rfl
theorem hc_z (l : List Tok) : hc (lz l) = hc l := by cases l <;> rfl
theorem ha_z (l : List Tok) : ha (lz l) = 0 := by cases l <;> rfl
theorem ht_z (l : List Tok) : ht (lz l) = ht l := by cases l <;> rfl
theorem hv_z (l : List Tok) : hv (lz l) = hv l := by cases l <;> rfl
theorem tl_z (l : List Tok) : (lz l).tail = lz l.tail := by cases l <;> rfl
theorem closes_z (l : List Tok) : closes (lz l) = closes l := by unfold closes; rw [hc_z]
theorem z_bind {x : PR} {k k' : F → List Tok → PR} (h : ∀ f m, k' f.z (lz m) = (k f m).z) : x.z.bind k' = (x.bind k).z := by
  cases x with
  | ok f m => exact h f m
  | bad p => rfl
  | out => rfl
theorem z_need {c : Nat} {l : List Tok} {k k' : List Tok → PR} (h : k' (lz l.tail) = (k l.tail).z) : need c (lz l) k' = (need c l k).z := by
  unfold need; rw [hc_z, ha_z, tl_z]; split
  · exact h
  · rfl
theorem z_nam {q : Int} {l : List Tok} {k k' : F → List Tok → PR} (h : k' (one q (ht l) 0 (ha l) .nil).z (lz l.tail) = (k (one q (ht l) 0 (ha l) .nil) l.tail).z) : nam q (lz l) k' = (nam q l k).z := by
  unfold nam; rw [hc_z, ha_z, tl_z, ht_z]; split
  · exact h
  · rfl
theorem z_tgt {f : F} {k k' : PR} (h : k' = k.z) : tgt f.z k' = (tgt f k).z := by
  unfold tgt; rw [F.z_kind, F.z_at]; split
  · exact h
  · rfl
theorem z_ite {c : Prop} [Decidable c] {a b a' b' : PR} (h1 : a' = a.z) (h2 : b' = b.z) : (if c then a' else b') = (if c then a else b).z := by
  split
  · exact h1
  · exact h2
theorem z_ok {f f' : F} {m m' : List Tok} (h1 : f' = f.z) (h2 : m' = lz m) : PR.ok f' m' = (PR.ok f m).z := by rw [h1, h2]; rfl

section
variable {rec : J → List Tok → PR} (ih : ∀ j l, rec j.z (lz l) = (rec j l).z)
include ih
theorem z_body {l : List Tok} {k k' : F → List Tok → PR} (h : ∀ f m, k' f.z (lz m) = (k f m).z) : bodyP rec (lz l) k' = (bodyP rec l k).z := by
  unfold bodyP
  refine z_need ?_
  rw [show rec (.blk false) (lz l.tail) = _ from ih (.blk false) l.tail]
  exact z_bind fun f m => z_need (h f _)
end
end Go.Proofs.YtlgkfhipobdcfabGreatDoor

/- The grammar over tokens without places, on. -/
namespace Go.Proofs.YtlgkfhipobdcfabGreatDoor

theorem z_bindr {x y : PR} {k k' : F → List Tok → PR} (hx : y = x.z) (h : ∀ f m, k' f.z (lz m) = (k f m).z) : y.bind k' = (x.bind k).z := by
  rw [hx]; exact z_bind h
theorem z_iff {c c' : Prop} {i1 : Decidable c} {i2 : Decidable c'} {a b a' b' : PR} (e : c' ↔ c) (h1 : a' = a.z) (h2 : b' = b.z) : (@ite _ c' i2 a' b') = (@ite _ c i1 a b).z := by
  by_cases h : c
  · rw [if_pos h, if_pos (e.2 h)]; exact h1
  · rw [if_neg h, if_neg (fun x => h (e.1 x))]; exact h2
section
variable {rec : J → List Tok → PR} (ih : ∀ j l, rec j.z (lz l) = (rec j l).z)
include ih
theorem z_last (l : List Tok) : lastP rec (lz l) = (lastP rec l).z := by
  unfold lastP
  simp only [tl_z, ha_z]
  refine z_iff (by rw [hc_z]) (z_ok rfl rfl) (z_iff (by rw [closes_z]) (z_ok rfl rfl) (z_bindr (ih (.lst .nil) _) fun f m => z_ok rfl ?_))
  rw [hc_z]
  split
  · rw [tl_z]
  · rfl
theorem z_fun (l : List Tok) : funP rec (lz l) = (funP rec l).z := by
  unfold funP parP
  simp only [tl_z, ha_z]
  refine z_nam (z_need (z_bindr ?_ fun ps m => z_need (z_bindr (ih (.blk false) _) fun b m2 => z_need (z_ok ?_ rfl))))
  · exact z_iff (by rw [hc_z]) (z_ok rfl rfl) (z_nam (ih (.nms _) _))
  · show one 31 _ _ 0 _ = one 31 _ _ 0 (ps.app b).z
    rw [F.z_app, F.z_len]; rfl
theorem z_br (a : F) (l : List Tok) : brP rec a.z (lz l) = (brP rec a l).z := by
  unfold brP
  exact z_bindr (ih (.ex 0) _) fun e m => z_need (z_bindr (ih (.blk false) _) fun b m2 => z_ok (by rw [F.z_app, F.z_app]) rfl)
theorem z_num (p : Int) (a : F) (l : List Tok) : numP rec 0 a.z (lz l) = (numP rec p a l).z := by
  unfold numP
  refine z_bindr (ih (.ex 0) _) fun e m => z_need (z_bindr (ih (.ex 0) _) fun e2 m2 => z_iff (by rw [hc_z]) ?_ ?_)
  · rw [tl_z]
    exact z_bindr (ih (.ex 0) _) fun e3 m3 => z_body ih fun b m4 => z_ok (by rw [one_z, F.z_app, F.z_app, F.z_app, F.z_app]) rfl
  · exact z_body ih fun b m4 => z_ok (by rw [one_z, F.z_app, F.z_app, F.z_app]) rfl
theorem z_for (l : List Tok) : forP rec (lz l) = (forP rec l).z := by
  unfold forP
  simp only [tl_z, ha_z]
  refine z_nam (z_iff (by rw [hc_z]) (by rw [tl_z]; exact z_num ih _ _ _) (z_bindr (ih (.nms _) _) fun ns m => z_need (z_bindr (ih (.lst ns) _) fun f m2 => z_body ih fun b m3 => z_ok (by rw [one_z, F.z_app, F.z_len]) rfl)))
theorem z_loc (l : List Tok) : locP rec (lz l) = (locP rec l).z := by
  unfold locP
  simp only [tl_z, ha_z]
  refine z_nam (z_bindr (ih (.nms _) _) fun ns m => z_iff (by rw [hc_z]) (by rw [tl_z]; exact z_bindr (ih (.lst ns) _) fun f m2 => z_ok (by rw [one_z, F.z_len]) rfl) (z_ok (by rw [one_z, F.z_len]) rfl))
theorem z_asg (l : List Tok) : asgP rec (lz l) = (asgP rec l).z := by
  unfold asgP
  refine z_bindr (ih .suf _) fun f m => z_iff (by rw [hc_z]) (z_tgt (z_bindr (ih (.asg f) _) fun ts m2 => z_need (z_bindr (ih (.lst ts) _) fun g m3 => z_ok (by rw [one_z, F.z_len, F.z_at]) rfl))) (z_iff (by rw [F.z_kind]) (z_ok (by rw [one_z, F.z_at]) rfl) (by rw [ha_z]; rfl))
theorem z_arg (a : F) (l : List Tok) : argP rec a.z (lz l) = (argP rec a l).z := by
  unfold argP
  exact z_iff (by rw [hc_z]) (z_ok rfl (tl_z l)) (z_bindr (ih (.lst a) _) fun f m => z_need (z_ok rfl rfl))
theorem z_stem (l : List Tok) : stemP rec (lz l) = (stemP rec l).z := by
  unfold stemP
  simp only [tl_z, ha_z]
  exact z_iff (by rw [hc_z]) (z_bindr (ih (.ex 0) _) fun e m => z_need (z_ok rfl rfl)) (z_nam (z_ok rfl rfl))
theorem z_step (j : J) (l : List Tok) : stp' rec j.z (lz l) = (stp' rec j l).z := by
  cases j with
  | blk c => exact z_bindr (ih (.bk c .nil) l) fun f m => z_ok (by rw [ha_z]; rfl) rfl
  | bk c a =>
    simp only [stp', J.z, tl_z]
    refine z_iff (by rw [hc_z]) (ih (.bk c a) _) (z_iff (by rw [hc_z]) (z_bindr (z_last ih l) fun f m => z_ok (by rw [F.z_app]) rfl) (z_iff (by rw [hc_z]) (z_bindr (z_fun ih l) fun f m => ?_) (z_iff (by rw [closes_z]) (z_ok rfl rfl) (z_bindr (ih .stat l) fun f m => ?_))))
    · rw [← F.z_app]; exact ih (.bk c (a.app f)) m
    · rw [← F.z_app]; exact ih (.bk c (a.app f)) m
  | stat =>
    simp only [stp', J.z, tl_z, ha_z]
    refine z_iff (by rw [hc_z]) (z_body ih fun b m => z_ok rfl rfl) (z_iff (by rw [hc_z]) ?_ (z_iff (by rw [hc_z]) ?_ (z_iff (by rw [hc_z]) (z_for ih l) (z_iff (by rw [hc_z]) (z_loc ih l) (z_iff (by rw [hc_z]) (z_ok rfl rfl) (z_asg ih l))))))
    · unfold whileP
      rw [tl_z, ha_z]
      exact z_bindr (ih (.ex 0) _) fun e m => z_body ih fun b m2 => z_ok (by rw [one_z, F.z_app]) rfl
    · unfold ifP
      rw [tl_z, ha_z]
      exact z_bindr (ih (.ifs .nil) _) fun f m => z_ok rfl rfl
  | lst a =>
    refine z_bindr (ih (.ex 0) l) fun f m => z_iff (by rw [hc_z]) ?_ (z_ok (by rw [F.z_app]) rfl)
    rw [← F.z_app, tl_z]; exact ih (.lst (a.app f)) m.tail
  | nms a =>
    simp only [stp', J.z, tl_z]
    refine z_iff (by rw [hc_z]) (z_nam ?_) (z_ok rfl rfl)
    rw [← F.z_app]; exact ih (.nms _) _
  | ifs a =>
    refine z_bindr (z_br ih a l) fun f m => z_iff (by rw [hc_z]) (by rw [tl_z]; exact ih (.ifs f) _) (z_iff (by rw [hc_z]) (by rw [tl_z]; exact z_bindr (ih (.blk false) _) fun b m2 => z_need (z_ok (by rw [F.z_app]) rfl)) (z_need (z_ok rfl rfl)))
  | asg a =>
    simp only [stp', J.z, tl_z]
    refine z_iff (by rw [hc_z]) (z_bindr (ih .suf _) fun f m => z_tgt ?_) (z_ok rfl rfl)
    rw [← F.z_app]; exact ih (.asg _) _
  | ex a => exact z_bindr (ih .opd l) fun f m => ih (.exl a f) m
  | exl a g =>
    simp only [stp', J.z, tl_z, hc_z, ht_z, F.z_at]
    refine z_iff Iff.rfl (z_bindr (ih (.ex _) _) fun f m => ?_) (z_ok rfl rfl)
    rw [← F.z_app]; exact ih (.exl a (one 11 (ht l) 0 g.at (g.app f))) m
  | opd =>
    simp only [stp', J.z, tl_z, ha_z, ht_z, hv_z]
    refine z_iff (by rw [hc_z]) (ih .suf l) (z_iff (by rw [hc_z]) ?_ (z_iff (by rw [hc_z]) (z_bindr (ih .opd _) fun f m => z_ok rfl rfl) (z_iff (by rw [hc_z]) (z_ok rfl rfl) (z_iff (by rw [hc_z]) (z_ok rfl rfl) (z_iff (by rw [hc_z]) (z_ok rfl rfl) (z_iff (by rw [hc_z]) (z_ok rfl rfl) (z_iff (by rw [hc_z]) (z_ok rfl rfl) rfl)))))))
    unfold tabP
    rw [tl_z, ha_z]
    exact z_bindr (ih (.tab .nil) _) fun f m => z_need (z_ok rfl rfl)
  | suf => exact z_bindr (z_stem ih l) fun f m => ih (.sufl f) m
  | sufl g =>
    simp only [stp', J.z, tl_z, F.z_at]
    refine z_iff (by rw [hc_z]) (z_bindr (ih (.ex 0) _) fun f m => z_need ?_) (z_iff (by rw [hc_z]) (z_nam ?_) (z_iff (by rw [hc_z]) (z_bindr (z_arg ih g _) fun f m => ?_) (z_ok rfl rfl)))
    · rw [← F.z_app]; exact ih (.sufl (one 7 [] 0 g.at (g.app f))) _
    · rw [← F.z_app]; exact ih (.sufl (one 7 [] 0 g.at (g.app _))) _
    · exact ih (.sufl (one 8 [] 0 g.at f)) m
  | tab a =>
    simp only [stp', J.z]
    refine z_iff (by rw [hc_z]) (z_ok rfl rfl) (z_bindr (ih .fld l) fun f m => z_iff (by rw [hc_z]) ?_ (z_ok (by rw [F.z_app]) rfl))
    rw [← F.z_app, tl_z]; exact ih (.tab (a.app f)) m.tail
  | fld =>
    simp only [stp', J.z, tl_z, ha_z, ht_z]
    refine z_iff (by rw [hc_z]) (z_bindr (ih (.ex 0) _) fun k m => z_need (z_need (z_bindr (ih (.ex 0) _) fun v m2 => z_ok (by rw [one_z, F.z_app]) rfl))) (z_iff (by rw [hc_z, hc_z]) (z_bindr (ih (.ex 0) _) fun v m => z_ok (by rw [one_z, F.z_app]; rfl) rfl) (z_bindr (ih (.ex 0) l) fun v m => z_ok rfl rfl))
end
/-- Without places: the same trees without places. -/
theorem pr_z : ∀ (n : Nat) (j : J) (l : List Tok), pr n j.z (lz l) = (pr n j l).z
  | 0, _, _ => rfl
  | n + 1, j, l => z_step (pr_z n) j l
theorem F.sam_of_z : ∀ f g : F, f.z = g.z → f.sam g
  | .nil, .nil, _ => trivial
  | .nil, .cons _ _ _ _ _ _, h => by simp only [F.z] at h; exact F.noConfusion h
  | .cons _ _ _ _ _ _, .nil, h => by simp only [F.z] at h; exact F.noConfusion h
  | .cons k t n p ks r, .cons k' t' n' p' ks' r', h => by
    simp only [F.z, F.cons.injEq] at h
    exact ⟨⟨h.1, h.2.1, h.2.2.1, F.sam_of_z ks ks' h.2.2.2.2.1⟩, F.sam_of_z r r' h.2.2.2.2.2⟩
/-- Tokens that differ in their places alone give trees that do so, too. -/
theorem pr_sam {n : Nat} {j : J} {l l' : List Tok} {f : F} {m : List Tok} (hl : lz l = lz l') (h : pr n j l = .ok f m) : ∃ f' m', pr n j l' = .ok f' m' ∧ f.sam f' ∧ lz m = lz m' := by
  have h1 := pr_z n j l
  have h2 := pr_z n j l'
  rw [hl, h2, h] at h1
  cases hp : pr n j l' with
  | ok f' m' =>
    rw [hp] at h1
    simp only [PR.z, PR.ok.injEq] at h1
    exact ⟨f', m', rfl, F.sam_of_z f f' h1.1.symm, h1.2.symm⟩
  | bad p => rw [hp] at h1; exact PR.noConfusion h1
  | out => rw [hp] at h1; exact PR.noConfusion h1
end Go.Proofs.YtlgkfhipobdcfabGreatDoor

/- The grammar over tokens that go on: what is told up to the end is told, too, where the end's place is taken by tokens that begin with ';', 'end' or ')' (no program in it). -/
namespace Go.Proofs.YtlgkfhipobdcfabGreatDoor

section
variable {e : Tok} {v : List Tok} (he : cls e = 56) (hv : hc v = 1 ∨ hc v = 4 ∨ hc v = 18)
/-- What x tells of tokens up to the end, y tells of those that go on; where g does not hold: if a token is left. -/
def X (e : Tok) (v : List Tok) (g : Prop) (x y : PR) : Prop := ∀ f m, x = .ok f m → ∃ u, m = u ++ [e] ∧ (g ∨ u ≠ [] → y = .ok f (u ++ v))
theorem X.ok {g : Prop} (f : F) (u : List Tok) : X e v g (.ok f (u ++ [e])) (.ok f (u ++ v)) := fun f' m h => by
  injection h with h1 h2
  exact ⟨u, h2.symm, fun _ => by rw [h1]⟩
theorem X.okn {g : Prop} (hg : ¬ g) (f : F) (y : PR) : X e v g (.ok f [e]) y := fun f' m h => by
  injection h with h1 h2
  exact ⟨[], by rw [← h2]; rfl, fun k => by rcases k with k | k; exact absurd k hg; exact absurd rfl k⟩
theorem X.bad {g : Prop} (p : Int) (y : PR) : X e v g (.bad p) y := fun f m h => by cases h
theorem X.mono {g g' : Prop} {x y : PR} (h : X e v g x y) (hg : g' → g) : X e v g' x y := fun f m hx => by
  obtain ⟨u, e1, e2⟩ := h f m hx
  exact ⟨u, e1, fun k => e2 (k.imp hg id)⟩
theorem X.bind {g g' : Prop} {x y : PR} {k k' : F → List Tok → PR} (h : X e v g x y) (hk : ∀ f u, g ∨ u ≠ [] → X e v g' (k f (u ++ [e])) (k' f (u ++ v))) (hn : ¬ g → ∀ f f' m, k f [e] ≠ .ok f' m) : X e v g' (x.bind k) (y.bind k') := fun f m hx => by
  cases x with
  | bad p => cases hx
  | out => cases hx
  | ok f1 m1 =>
    obtain ⟨u, e1, e2⟩ := h f1 m1 rfl
    have hx : k f1 m1 = .ok f m := hx
    rw [e1] at hx
    by_cases hu : g ∨ u ≠ []
    · obtain ⟨u', e3, e4⟩ := hk f1 u hu f m hx
      refine ⟨u', e3, fun hh => ?_⟩
      rw [e2 hu]
      exact e4 hh
    · have h1 : ¬ g := fun x => hu (.inl x)
      have h2 : u = [] := Classical.byContradiction fun x => hu (.inr x)
      rw [h2] at hx
      exact absurd hx (hn h1 f1 f m)
theorem X.bindT {g' : Prop} {x y : PR} {k k' : F → List Tok → PR} (h : X e v True x y) (hk : ∀ f u, X e v g' (k f (u ++ [e])) (k' f (u ++ v))) : X e v g' (x.bind k) (y.bind k') := h.bind (fun f u _ => hk f u) (fun h => absurd trivial h)
include he
theorem hc_e : hc [e] = 56 := he
theorem hc_ne (u : List Tok) (c : Nat) (h : hc (u ++ [e]) = c) (hc : c ≠ 56) : ∃ t u', u = t :: u' := by
  cases u with
  | nil => exact absurd (h.symm.trans he) hc
  | cons t u' => exact ⟨t, u', rfl⟩
theorem X.need {g : Prop} {c : Nat} {u : List Tok} {k k' : List Tok → PR} (hc' : c ≠ 56) (h : ∀ t u', u = t :: u' → X e v g (k (u' ++ [e])) (k' (u' ++ v))) : X e v g (need c (u ++ [e]) k) (need c (u ++ v) k') := by
  unfold Go.Proofs.YtlgkfhipobdcfabGreatDoor.need
  cases u with
  | nil => rw [if_neg (show ¬ hc ([] ++ [e]) = c from fun h => hc' (h.symm.trans he))]; exact .bad _ _
  | cons t u' =>
    show X e v g (if cls t = c then _ else _) (if cls t = c then _ else _)
    split
    · exact h t u' rfl
    · exact .bad _ _
theorem X.nam {g : Prop} {q : Int} {u : List Tok} {k k' : F → List Tok → PR} (h : ∀ f t u', u = t :: u' → X e v g (k f (u' ++ [e])) (k' f (u' ++ v))) : X e v g (nam q (u ++ [e]) k) (nam q (u ++ v) k') := by
  unfold Go.Proofs.YtlgkfhipobdcfabGreatDoor.nam
  cases u with
  | nil => rw [if_neg (show ¬ hc ([] ++ [e]) = 51 from fun h => absurd (h.symm.trans he) (by decide))]; exact .bad _ _
  | cons t u' =>
    show X e v g (if cls t = 51 then _ else _) (if cls t = 51 then _ else _)
    split
    · exact h _ t u' rfl
    · exact .bad _ _
include hv
/-- A test on the next token's class. -/
theorem X.iff {u : List Tok} {c : Nat} (h1 : c ≠ 56) (h2 : c ≠ 1) (h3 : c ≠ 4) (h4 : c ≠ 18) : hc (u ++ v) = c ↔ hc (u ++ [e]) = c := by
  cases u with
  | nil =>
    refine ⟨fun h => ?_, fun h => absurd (h.symm.trans he) h1⟩
    have h : hc v = c := h
    omega
  | cons t u' => exact Iff.rfl
theorem X.test {g : Prop} {u : List Tok} {c : Nat} {a b a' b' : PR} (h1 : c ≠ 56) (h2 : c ≠ 1) (h3 : c ≠ 4) (h4 : c ≠ 18) (ha : ∀ t u', u = t :: u' → cls t = c → X e v g a a') (hb : X e v g b b') : X e v g (if hc (u ++ [e]) = c then a else b) (if hc (u ++ v) = c then a' else b') := by
  by_cases h : hc (u ++ [e]) = c
  · rw [if_pos h, if_pos ((X.iff he hv h1 h2 h3 h4).2 h)]
    obtain ⟨t, u', rfl⟩ := hc_ne he u c h h1
    exact ha t u' rfl h
  · rw [if_neg h, if_neg (fun x => h ((X.iff he hv h1 h2 h3 h4).1 x))]
    exact hb
omit hv in
theorem need_e {c : Nat} {k : List Tok → PR} (hc' : c ≠ 56) (f : F) (m : List Tok) : need c [e] k ≠ .ok f m := by
  unfold Go.Proofs.YtlgkfhipobdcfabGreatDoor.need
  rw [if_neg (show ¬ hc [e] = c from fun h => hc' (h.symm.trans he))]
  intro h; cases h
omit he hv in
theorem X.cnd {g : Prop} {c c' : Prop} {i1 : Decidable c} {i2 : Decidable c'} {a b a' b' : PR} (hc : c' ↔ c) (h1 : c → X e v g a a') (h2 : ¬ c → X e v g b b') : X e v g (@ite _ c i1 a b) (@ite _ c' i2 a' b') := by
  by_cases h : c
  · rw [if_pos h, if_pos (hc.2 h)]; exact h1 h
  · rw [if_neg h, if_neg (fun x => h (hc.1 x))]; exact h2 h
omit he hv in
theorem X.xpos {g c : Prop} {i : Decidable c} {a b y : PR} (h : c) (hx : X e v g a y) : X e v g (@ite _ c i a b) y := by rw [if_pos h]; exact hx
omit he hv in
theorem X.xneg {g c : Prop} {i : Decidable c} {a b y : PR} (h : ¬ c) (hx : X e v g b y) : X e v g (@ite _ c i a b) y := by rw [if_neg h]; exact hx
omit he hv in
theorem X.ypos {g c : Prop} {i : Decidable c} {a b x : PR} (h : c) (hx : X e v g x a) : X e v g x (@ite _ c i a b) := by rw [if_pos h]; exact hx
omit he hv in
theorem X.yneg {g c : Prop} {i : Decidable c} {a b x : PR} (h : ¬ c) (hx : X e v g x b) : X e v g x (@ite _ c i a b) := by rw [if_neg h]; exact hx
omit he hv in
theorem X.none {g : Prop} {x y : PR} (h : ∀ f m, x ≠ .ok f m) : X e v g x y := fun f m hx => absurd hx (h f m)
omit he hv in
theorem bind_none {x : PR} {k : F → List Tok → PR} (h : ∀ f m, x ≠ .ok f m) (f : F) (m : List Tok) : x.bind k ≠ .ok f m := by
  cases x with
  | ok f' m' => exact absurd rfl (h f' m')
  | bad p => intro h; cases h
  | out => intro h; cases h
omit he hv in
theorem X.map {g : Prop} {x y : PR} {h h' : F → F} (H : X e v g x y) (hh : h = h') : X e v g (x.bind fun f l => .ok (h f) l) (y.bind fun f l => .ok (h' f) l) := fun f m hx => by
  subst hh
  cases x with
  | bad p => cases hx
  | out => cases hx
  | ok f1 m1 =>
    obtain ⟨u, e1, e2⟩ := H f1 m1 rfl
    have hx : PR.ok (h f1) m1 = .ok f m := hx
    injection hx with h1 h2
    refine ⟨u, h2.symm.trans e1, fun k => ?_⟩
    rw [e2 k, ← h1]; rfl
omit he hv in
theorem X.tgt {g : Prop} {f : F} {x y : PR} (h : X e v g x y) : X e v g (tgt f x) (tgt f y) := by
  unfold Go.Proofs.YtlgkfhipobdcfabGreatDoor.tgt
  split
  · exact h
  · exact .bad _ _
omit he hv in
theorem hc_cons (t : Tok) (l : List Tok) : hc (t :: l) = cls t := rfl
omit he hv in
theorem ha_cons (t : Tok) (l : List Tok) : ha (t :: l) = t.p := rfl
omit he hv in
theorem ht_cons (t : Tok) (l : List Tok) : ht (t :: l) = t.t := rfl
omit he hv in
theorem hv_cons (t : Tok) (l : List Tok) : Go.Proofs.YtlgkfhipobdcfabGreatDoor.hv (t :: l) = t.v := rfl
omit he hv in
theorem closes_cons (t : Tok) (l l' : List Tok) : closes (t :: l) = closes (t :: l') := rfl
end

/-- Which jobs are told alike at the very end, too. -/
@[reducible] def gd (v : List Tok) (j : J) : Prop :=
  match j with
  | .blk _ => hc v = 4
  | .bk _ _ => hc v = 4
  | .tab _ => hc v ≠ 1
  | _ => True

section
variable {e : Tok} {v : List Tok} (he : cls e = 56) (hv : hc v = 1 ∨ hc v = 4 ∨ hc v = 18) (hp : ha v = e.p)
variable {rec : J → List Tok → PR} (ih : ∀ j u, X e v (gd v j) (rec j (u ++ [e])) (rec j (u ++ v))) (hL : ∀ j f m, st j = 1 → rec j [e] ≠ .ok f m)
include he hv ih
omit hv in
theorem x_body {g : Prop} {u : List Tok} {k k' : F → List Tok → PR} (h : ∀ f u', X e v g (k f (u' ++ [e])) (k' f (u' ++ v))) : X e v g (bodyP rec (u ++ [e]) k) (bodyP rec (u ++ v) k') := by
  unfold bodyP
  exact .need he (by decide) fun t u' _ => .bind (ih (.blk false) u') (fun f u1 _ => .need he (by decide) fun t2 u2 _ => h f u2) (fun _ f f' m => need_e he (by decide) f' m)
omit hv in
theorem x_last (t : Tok) (u : List Tok) : X e v (hc v = 4) (lastP rec (t :: (u ++ [e]))) (lastP rec (t :: (u ++ v))) := by
  have c56 : closes [e] = true := by unfold closes; rw [hc_e he]; rfl
  unfold lastP
  cases u with
  | nil =>
    refine .xneg (show ¬ hc [e] = 1 by rw [hc_e he]; decide) (.xpos c56 ?_)
    by_cases h4 : hc v = 4
    · exact .yneg (show ¬ hc v = 1 by rw [h4]; decide) (.ypos (show closes v = true by unfold closes; rw [h4]; rfl) (.ok _ []))
    · exact .okn h4 _ _
  | cons t2 u2 =>
    refine .cnd Iff.rfl (fun _ => .ok _ u2) (fun _ => .cnd Iff.rfl (fun _ => .ok _ (t2 :: u2)) fun _ => .bindT (ih (.lst .nil) (t2 :: u2)) fun f u' => ?_)
    cases u' with
    | nil =>
      by_cases h4 : hc v = 4
      · have e1 : (if hc ([] ++ [e]) = 1 then ([] ++ [e]).tail else [] ++ [e]) = [] ++ [e] := if_neg (show ¬ hc [e] = 1 by rw [hc_e he]; decide)
        have e2 : (if hc ([] ++ v) = 1 then ([] ++ v).tail else [] ++ v) = [] ++ v := if_neg (show ¬ hc v = 1 by omega)
        rw [e1, e2]
        exact .ok _ []
      · have e1 : (if hc ([] ++ [e]) = 1 then ([] ++ [e]).tail else [] ++ [e]) = [e] := if_neg (show ¬ hc [e] = 1 by rw [hc_e he]; decide)
        rw [e1]
        exact .okn h4 _ _
    | cons t3 u3 =>
      by_cases h1 : cls t3 = 1
      · have e1 : ∀ z, (if hc (t3 :: u3 ++ z) = 1 then (t3 :: u3 ++ z).tail else t3 :: u3 ++ z) = u3 ++ z := fun z => if_pos h1
        rw [e1, e1]
        exact .ok _ u3
      · have e1 : ∀ z, (if hc (t3 :: u3 ++ z) = 1 then (t3 :: u3 ++ z).tail else t3 :: u3 ++ z) = t3 :: u3 ++ z := fun z => if_neg h1
        rw [e1, e1]
        exact .ok _ (t3 :: u3)
omit hv in
theorem x_fun (t : Tok) (u : List Tok) : X e v True (funP rec (t :: (u ++ [e]))) (funP rec (t :: (u ++ v))) := by
  unfold funP
  simp only [List.tail_cons, ha_cons]
  refine .nam he fun m t1 u1 _ => .need he (by decide) fun t2 u2 _ => .bindT ?_ fun ps u3 => .need he (by decide) fun t4 u4 _ => .bind (ih (.blk false) u4) (fun b u5 _ => .need he (by decide) fun t6 u6 _ => .ok _ u6) (fun _ f f' m => need_e he (by decide) f' m)
  unfold parP
  cases u2 with
  | nil =>
    refine .xneg (show ¬ hc [e] = 18 by rw [hc_e he]; decide) (.none fun f m => ?_)
    unfold nam
    rw [if_neg (show ¬ hc ([] ++ [e]) = 51 by rw [show hc ([] ++ [e]) = 56 from he]; decide)]
    intro h; cases h
  | cons t3 u3 => exact .cnd Iff.rfl (fun _ => .ok _ (t3 :: u3)) fun _ => .nam (u := t3 :: u3) he fun f t4 u4 _ => ih (.nms f) u4
omit hv in
theorem x_br (a : F) (u : List Tok) : X e v (hc v = 4) (brP rec a (u ++ [e])) (brP rec a (u ++ v)) := by
  unfold brP
  exact .bindT (ih (.ex 0) u) fun f u1 => .need he (by decide) fun t2 u2 _ => .map (ih (.blk false) u2) rfl
theorem x_num (p : Int) (a : F) (u : List Tok) : X e v True (numP rec p a (u ++ [e])) (numP rec p a (u ++ v)) := by
  unfold numP
  refine .bindT (ih (.ex 0) u) fun f u1 => .need he (by decide) fun t2 u2 _ => .bindT (ih (.ex 0) u2) fun f2 u3 => .test he hv (by decide) (by decide) (by decide) (by decide) ?_ ?_
  · rintro t4 u4 rfl _
    exact .bindT (ih (.ex 0) u4) fun f3 u5 => x_body he ih fun b u6 => .ok _ u6
  · exact x_body he ih fun b u6 => .ok _ u6
theorem x_for (t : Tok) (u : List Tok) : X e v True (forP rec (t :: (u ++ [e]))) (forP rec (t :: (u ++ v))) := by
  unfold forP
  simp only [List.tail_cons, ha_cons]
  refine .nam he fun m t1 u1 _ => .test he hv (by decide) (by decide) (by decide) (by decide) ?_ ?_
  · rintro t4 u4 rfl _
    exact x_num he hv ih _ _ u4
  · exact .bindT (ih (.nms m) u1) fun ns u2 => .need he (by decide) fun t3 u3 _ => .bindT (ih (.lst ns) u3) fun f u4 => x_body he ih fun b u6 => .ok _ u6
theorem x_loc (t : Tok) (u : List Tok) : X e v True (locP rec (t :: (u ++ [e]))) (locP rec (t :: (u ++ v))) := by
  unfold locP
  simp only [List.tail_cons, ha_cons]
  refine .nam he fun m t1 u1 _ => .bindT (ih (.nms m) u1) fun ns u2 => .test he hv (by decide) (by decide) (by decide) (by decide) ?_ (.ok _ u2)
  rintro t4 u4 rfl _
  exact .bindT (ih (.lst ns) u4) fun f u5 => .ok _ u5
theorem x_asg (u : List Tok) : X e v True (asgP rec (u ++ [e])) (asgP rec (u ++ v)) := by
  unfold asgP
  refine .bindT (ih .suf u) fun f u1 => ?_
  have hi : (hc (u1 ++ v) = 14 ∨ hc (u1 ++ v) = 15) ↔ (hc (u1 ++ [e]) = 14 ∨ hc (u1 ++ [e]) = 15) := by
    rw [X.iff he hv (c := 14) (by decide) (by decide) (by decide) (by decide), X.iff he hv (c := 15) (by decide) (by decide) (by decide) (by decide)]
  by_cases h : hc (u1 ++ [e]) = 14 ∨ hc (u1 ++ [e]) = 15
  · rw [if_pos h, if_pos (hi.2 h)]
    exact .tgt (.bindT (ih (.asg f) u1) fun ts u2 => .need he (by decide) fun t3 u3 _ => .bindT (ih (.lst ts) u3) fun g u4 => .ok _ u4)
  · rw [if_neg h, if_neg (fun x => h (hi.1 x))]
    split
    · exact .ok _ u1
    · exact .bad _ _
theorem x_stem (u : List Tok) : X e v True (stemP rec (u ++ [e])) (stemP rec (u ++ v)) := by
  unfold stemP
  refine .test he hv (by decide) (by decide) (by decide) (by decide) ?_ (.nam he fun f t1 u1 _ => .ok _ u1)
  rintro t4 u4 rfl _
  exact .bindT (ih (.ex 0) u4) fun f u5 => .need he (by decide) fun t6 u6 _ => .ok _ u6
include hL
omit hv in
theorem x_arg (a : F) (u : List Tok) : X e v True (argP rec a (u ++ [e])) (argP rec a (u ++ v)) := by
  unfold argP
  cases u with
  | nil =>
    exact .xneg (show ¬ hc [e] = 18 by rw [hc_e he]; decide) (.none (bind_none fun f m => hL (.lst a) f m rfl))
  | cons t1 u1 => exact .cnd Iff.rfl (fun _ => .ok _ u1) fun _ => .bindT (ih (.lst a) (t1 :: u1)) fun f u2 => .need he (by decide) fun t3 u3 _ => .ok _ u3
include hp
set_option maxHeartbeats 1000000 in
theorem x_step (j : J) (u : List Tok) : X e v (gd v j) (stp' rec j (u ++ [e])) (stp' rec j (u ++ v)) := by
  have hae : ha (u ++ [e]) = ha (u ++ v) := by cases u with | nil => exact hp.symm | cons t u => rfl
  have c56 : closes [e] = true := by unfold closes; rw [hc_e he]; rfl
  cases j with
  | blk c =>
    show X e v (hc v = 4) ((rec (.bk c .nil) (u ++ [e])).bind fun f l1 => .ok (one 20 [] 0 (ha (u ++ [e])) f) l1) ((rec (.bk c .nil) (u ++ v)).bind fun f l1 => .ok (one 20 [] 0 (ha (u ++ v)) f) l1)
    exact .map (ih (.bk c .nil) u) (by rw [hae])
  | bk c a =>
    show X e v (hc v = 4) _ _
    simp only [stp']
    cases u with
    | nil =>
      refine .xneg (show ¬ hc [e] = 1 by rw [hc_e he]; decide) (.xneg (show ¬ hc [e] = 2 by rw [hc_e he]; decide) (.xneg (show ¬ (c = true ∧ hc [e] = 3) by rw [hc_e he]; exact fun x => absurd x.2 (by decide)) (.xpos c56 ?_)))
      by_cases h4 : hc v = 4
      · exact .yneg (show ¬ hc v = 1 by rw [h4]; decide) (.yneg (show ¬ hc v = 2 by rw [h4]; decide) (.yneg (show ¬ (c = true ∧ hc v = 3) by rw [h4]; exact fun x => absurd x.2 (by decide)) (.ypos (show closes v = true by unfold closes; rw [h4]; rfl) (.ok _ []))))
      · exact .okn h4 _ _
    | cons t u => exact .cnd Iff.rfl (fun _ => ih (.bk c a) u) fun _ => .cnd Iff.rfl (fun _ => .map (x_last he ih t u) rfl) fun _ => .cnd Iff.rfl (fun _ => .bindT (x_fun he ih t u) fun f u1 => ih (.bk c (a.app f)) u1) fun _ => .cnd Iff.rfl (fun _ => .ok _ (t :: u)) fun _ => .bindT (ih .stat (t :: u)) fun f u1 => ih (.bk c (a.app f)) u1
  | stat =>
    show X e v True _ _
    simp only [stp']
    refine .test he hv (by decide) (by decide) (by decide) (by decide) ?_ (.test he hv (by decide) (by decide) (by decide) (by decide) ?_ (.test he hv (by decide) (by decide) (by decide) (by decide) ?_ (.test he hv (by decide) (by decide) (by decide) (by decide) ?_ (.test he hv (by decide) (by decide) (by decide) (by decide) ?_ (.test he hv (by decide) (by decide) (by decide) (by decide) ?_ (x_asg he hv ih u))))))
    · intro t u' _ _
      exact x_body he ih fun b u6 => by rw [hae]; exact .ok _ u6
    · rintro t u' rfl _
      unfold whileP
      exact .bindT (ih (.ex 0) u') fun f u1 => x_body he ih fun b u6 => .ok _ u6
    · rintro t u' rfl _
      unfold ifP
      exact .bindT (ih (.ifs .nil) u') fun f u1 => .ok _ u1
    · rintro t u' rfl _
      exact x_for he hv ih t u'
    · rintro t u' rfl _
      exact x_loc he hv ih t u'
    · rintro t u' rfl _
      exact .ok _ u'
  | lst a =>
    show X e v True _ _
    refine .bindT (ih (.ex 0) u) fun f u1 => .test he hv (by decide) (by decide) (by decide) (by decide) ?_ (.ok _ u1)
    rintro t u' rfl _
    exact ih (.lst (a.app f)) u'
  | nms a =>
    show X e v True _ _
    simp only [stp']
    refine .test he hv (by decide) (by decide) (by decide) (by decide) ?_ (.ok _ u)
    rintro t u' rfl _
    exact .nam he fun f t1 u1 _ => ih (.nms (a.app f)) u1
  | ifs a =>
    show X e v True _ _
    refine .bind (x_br he ih a u) (fun f u1 _ => .test he hv (by decide) (by decide) (by decide) (by decide) ?_ (.test he hv (by decide) (by decide) (by decide) (by decide) ?_ (.need he (by decide) fun t2 u2 _ => .ok _ u2))) ?_
    · rintro t u' rfl _
      exact ih (.ifs f) u'
    · rintro t u' rfl _
      exact .bind (ih (.blk false) u') (fun b u2 _ => .need he (by decide) fun t3 u3 _ => .ok _ u3) (fun _ f f' m => need_e he (by decide) f' m)
    · intro _ f f' m
      rw [if_neg (show ¬ hc [e] = 6 by rw [hc_e he]; decide), if_neg (show ¬ hc [e] = 5 by rw [hc_e he]; decide)]
      exact need_e he (by decide) f' m
  | asg a =>
    show X e v True _ _
    simp only [stp']
    refine .test he hv (by decide) (by decide) (by decide) (by decide) ?_ (.ok _ u)
    rintro t u' rfl _
    exact .bindT (ih .suf u') fun f u1 => .tgt (ih (.asg (a.app f)) u1)
  | ex a =>
    show X e v True _ _
    exact .bindT (ih .opd u) fun f u1 => ih (.exl a f) u1
  | exl a g =>
    show X e v True _ _
    simp only [stp']
    cases u with
    | nil => exact .xneg (show ¬ a < bnd (hc [e]) by rw [hc_e he]; exact Nat.not_lt_zero a) (.yneg (show ¬ a < bnd (hc v) by rcases hv with h | h | h <;> rw [h] <;> exact Nat.not_lt_zero a) (.ok _ []))
    | cons t u => exact .cnd Iff.rfl (fun _ => .bindT (ih (.ex _) u) fun f u1 => ih (.exl a _) u1) fun _ => .ok _ (t :: u)
  | opd =>
    show X e v True _ _
    simp only [stp']
    cases u with
    | nil => exact .xneg (show ¬ (hc [e] = 51 ∨ hc [e] = 17) by rw [hc_e he]; decide) (.xneg (show ¬ (hc [e] = 22) by rw [hc_e he]; decide) (.xneg (show ¬ (hc [e] = 24 ∨ hc [e] = 25 ∨ hc [e] = 26) by rw [hc_e he]; decide) (.xneg (show ¬ (hc [e] = 53) by rw [hc_e he]; decide) (.xneg (show ¬ (hc [e] = 54) by rw [hc_e he]; decide) (.xneg (show ¬ (hc [e] = 27) by rw [hc_e he]; decide) (.xneg (show ¬ (hc [e] = 28) by rw [hc_e he]; decide) (.xneg (show ¬ (hc [e] = 29) by rw [hc_e he]; decide) (.bad _ _))))))))
    | cons t u =>
      refine .cnd Iff.rfl (fun _ => ih .suf (t :: u)) fun _ => .cnd Iff.rfl (fun _ => ?_) fun _ => .cnd Iff.rfl (fun _ => .bindT (ih .opd u) fun f u1 => .ok _ u1) fun _ => .cnd Iff.rfl (fun _ => .ok _ u) fun _ => .cnd Iff.rfl (fun _ => .ok _ u) fun _ => .cnd Iff.rfl (fun _ => .ok _ u) fun _ => .cnd Iff.rfl (fun _ => .ok _ u) fun _ => .cnd Iff.rfl (fun _ => .ok _ u) fun _ => .bad _ _
      unfold tabP
      exact .bind (ih (.tab .nil) u) (fun b u2 _ => .need he (by decide) fun t3 u3 _ => .ok _ u3) (fun _ f f' m => need_e he (by decide) f' m)
  | suf =>
    show X e v True _ _
    exact .bindT (x_stem he hv ih u) fun f u1 => ih (.sufl f) u1
  | sufl g =>
    show X e v True _ _
    simp only [stp']
    refine .test he hv (by decide) (by decide) (by decide) (by decide) ?_ (.test he hv (by decide) (by decide) (by decide) (by decide) ?_ (.test he hv (by decide) (by decide) (by decide) (by decide) ?_ (.ok _ u)))
    · rintro t u' rfl _
      exact .bindT (ih (.ex 0) u') fun f u1 => .need he (by decide) fun t2 u2 _ => ih (.sufl _) u2
    · rintro t u' rfl _
      exact .nam he fun f t1 u1 _ => ih (.sufl _) u1
    · rintro t u' rfl _
      exact .bindT (x_arg he ih hL g u') fun f u1 => ih (.sufl _) u1
  | tab a =>
    show X e v (hc v ≠ 1) _ _
    simp only [stp']
    cases u with
    | nil => exact .xneg (show ¬ hc [e] = 23 by rw [hc_e he]; decide) (.none (bind_none fun f m => hL .fld f m rfl))
    | cons t u =>
      refine .cnd Iff.rfl (fun _ => .ok _ (t :: u)) fun _ => .bindT (ih .fld (t :: u)) fun f u2 => ?_
      cases u2 with
      | nil =>
        refine .xneg (show ¬ (hc [e] = 15 ∨ hc [e] = 1) by rw [hc_e he]; decide) ?_
        by_cases h1 : hc v = 1
        · exact .okn (fun x => x h1) _ _
        · exact .yneg (show ¬ (hc v = 15 ∨ hc v = 1) by omega) (.ok _ [])
      | cons t3 u3 => exact .cnd Iff.rfl (fun _ => ih (.tab (a.app f)) u3) fun _ => .ok _ (t3 :: u3)
  | fld =>
    show X e v True _ _
    simp only [stp']
    cases u with
    | nil => exact .xneg (show ¬ hc [e] = 19 by rw [hc_e he]; decide) (.xneg (show ¬ (hc [e] = 51 ∧ hc [e].tail = 14) by rw [hc_e he]; exact fun x => absurd x.1 (by decide)) (.none (bind_none fun f m => hL (.ex 0) f m rfl)))
    | cons t u =>
      have ht : (hc (u ++ v) = 14) ↔ (hc (u ++ [e]) = 14) := X.iff he hv (by decide) (by decide) (by decide) (by decide)
      refine .cnd Iff.rfl (fun _ => .bindT (ih (.ex 0) u) fun f u1 => .need he (by decide) fun t2 u2 _ => .need he (by decide) fun t3 u3 _ => .bindT (ih (.ex 0) u3) fun f2 u4 => .ok _ u4) fun _ => .cnd (and_congr Iff.rfl ht) (fun h => ?_) fun _ => .bindT (ih (.ex 0) (t :: u)) fun f u1 => .ok _ u1
      obtain ⟨t2, u2, rfl⟩ := hc_ne he u 14 h.2 (by decide)
      exact .bindT (ih (.ex 0) u2) fun f u1 => .ok _ u1
end
theorem x_all {e : Tok} {v : List Tok} (he : cls e = 56) (hv : hc v = 1 ∨ hc v = 4 ∨ hc v = 18) (hp : ha v = e.p) : ∀ (n : Nat) (j : J) (u : List Tok), X e v (gd v j) (pr n j (u ++ [e])) (pr n j (u ++ v))
  | 0, _, _ => fun f m h => by cases h
  | n + 1, j, u => x_step he hv hp (x_all he hv hp n) (fun j f m hs h => by
      obtain ⟨u, e1, _⟩ := x_all he hv hp n j [] f m h
      have := pr_len h
      rw [e1, hs] at this
      simp at this) j u
end Go.Proofs.YtlgkfhipobdcfabGreatDoor

/- Two chunks, one behind the other: the trees of both (no program in it). -/
namespace Go.Proofs.YtlgkfhipobdcfabGreatDoor

/-- More steps change nothing once they were enough. -/
def Le (x y : PR) : Prop := x = .out ∨ x = y
theorem Le.rfl' (x : PR) : Le x x := .inr rfl
theorem Le.bind {x y : PR} {k k' : F → List Tok → PR} (h : Le x y) (hk : ∀ f l, Le (k f l) (k' f l)) : Le (x.bind k) (y.bind k') := by
  rcases h with h | h
  · rw [h]; exact .inl rfl
  · subst h
    cases x with
    | ok f l => exact hk f l
    | bad p => exact .inr rfl
    | out => exact .inl rfl
theorem Le.need {c : Nat} {l : List Tok} {k k' : List Tok → PR} (h : ∀ l, Le (k l) (k' l)) : Le (need c l k) (need c l k') := by
  unfold Go.Proofs.YtlgkfhipobdcfabGreatDoor.need; split
  · exact h _
  · exact .inr rfl
theorem Le.nam {q : Int} {l : List Tok} {k k' : F → List Tok → PR} (h : ∀ f l, Le (k f l) (k' f l)) : Le (nam q l k) (nam q l k') := by
  unfold Go.Proofs.YtlgkfhipobdcfabGreatDoor.nam; split
  · exact h _ _
  · exact .inr rfl
theorem Le.tgt {f : F} {x y : PR} (h : Le x y) : Le (tgt f x) (tgt f y) := by
  unfold Go.Proofs.YtlgkfhipobdcfabGreatDoor.tgt; split
  · exact h
  · exact .inr rfl
theorem Le.cnd {c : Prop} {i : Decidable c} {a b a' b' : PR} (h1 : Le a a') (h2 : Le b b') : Le (@ite _ c i a b) (@ite _ c i a' b') := by
  split
  · exact h1
  · exact h2
section
variable {rec rec' : J → List Tok → PR} (ih : ∀ j l, Le (rec j l) (rec' j l))
include ih
theorem le_body {l : List Tok} {k k' : F → List Tok → PR} (h : ∀ f l, Le (k f l) (k' f l)) : Le (bodyP rec l k) (bodyP rec' l k') :=
  .need fun l => .bind (ih _ l) fun f _ => .need fun l => h f l
theorem le_step (j : J) (l : List Tok) : Le (stp' rec j l) (stp' rec' j l) := by
  cases j with
  | blk c => exact .bind (ih _ _) fun _ _ => .inr rfl
  | bk c a => exact .cnd (ih _ _) (.cnd (.bind (.cnd (.inr rfl) (.cnd (.inr rfl) (.bind (ih _ _) fun _ _ => .inr rfl))) fun _ _ => .inr rfl) (.cnd (.bind (.nam fun _ _ => .need fun l => .bind (.cnd (.inr rfl) (.nam fun _ _ => ih _ _)) fun _ _ => .need fun _ => .bind (ih _ _) fun _ _ => .need fun _ => .inr rfl) fun _ _ => ih _ _) (.cnd (.inr rfl) (.bind (ih _ _) fun _ _ => ih _ _))))
  | stat => exact .cnd (le_body ih fun _ _ => .inr rfl) (.cnd (.bind (ih _ _) fun _ _ => le_body ih fun _ _ => .inr rfl) (.cnd (.bind (ih _ _) fun _ _ => .inr rfl) (.cnd (.nam fun _ _ => .cnd (.bind (ih _ _) fun _ _ => .need fun _ => .bind (ih _ _) fun _ _ => .cnd (.bind (ih _ _) fun _ _ => le_body ih fun _ _ => .inr rfl) (le_body ih fun _ _ => .inr rfl)) (.bind (ih _ _) fun _ _ => .need fun _ => .bind (ih _ _) fun _ _ => le_body ih fun _ _ => .inr rfl)) (.cnd (.nam fun _ _ => .bind (ih _ _) fun _ _ => .cnd (.bind (ih _ _) fun _ _ => .inr rfl) (.inr rfl)) (.cnd (.inr rfl) (.bind (ih _ _) fun _ _ => .cnd (.tgt (.bind (ih _ _) fun _ _ => .need fun _ => .bind (ih _ _) fun _ _ => .inr rfl)) (.inr rfl)))))))
  | lst a => exact .bind (ih _ _) fun _ _ => .cnd (ih _ _) (.inr rfl)
  | nms a => exact .cnd (.nam fun _ _ => ih _ _) (.inr rfl)
  | ifs a => exact .bind (.bind (ih _ _) fun _ _ => .need fun _ => .bind (ih _ _) fun _ _ => .inr rfl) fun _ _ => .cnd (ih _ _) (.cnd (.bind (ih _ _) fun _ _ => .need fun _ => .inr rfl) (.inr rfl))
  | asg a => exact .cnd (.bind (ih _ _) fun _ _ => .tgt (ih _ _)) (.inr rfl)
  | ex a => exact .bind (ih _ _) fun _ _ => ih _ _
  | exl a f => exact .cnd (.bind (ih _ _) fun _ _ => ih _ _) (.inr rfl)
  | opd => exact .cnd (ih _ _) (.cnd (.bind (ih _ _) fun _ _ => .inr rfl) (.cnd (.bind (ih _ _) fun _ _ => .inr rfl) (.inr rfl)))
  | suf => exact .bind (.cnd (.bind (ih _ _) fun _ _ => .inr rfl) (.inr rfl)) fun _ _ => ih _ _
  | sufl f => exact .cnd (.bind (ih _ _) fun _ _ => .need fun _ => ih _ _) (.cnd (.nam fun _ _ => ih _ _) (.cnd (.bind (.cnd (.inr rfl) (.bind (ih _ _) fun _ _ => .inr rfl)) fun _ _ => ih _ _) (.inr rfl)))
  | tab a => exact .cnd (.inr rfl) (.bind (ih _ _) fun _ _ => .cnd (ih _ _) (.inr rfl))
  | fld => exact .cnd (.bind (ih _ _) fun _ _ => .need fun _ => .need fun _ => .bind (ih _ _) fun _ _ => .inr rfl) (.cnd (.bind (ih _ _) fun _ _ => .inr rfl) (.bind (ih _ _) fun _ _ => .inr rfl))
end
theorem pr_le1 : ∀ (n : Nat) (j : J) (l : List Tok), Le (pr n j l) (pr (n + 1) j l)
  | 0, _, _ => .inl rfl
  | n + 1, j, l => le_step (pr_le1 n) j l
theorem pr_le (n : Nat) (j : J) (l : List Tok) : ∀ d, Le (pr n j l) (pr (n + d) j l)
  | 0 => .inr rfl
  | d + 1 => by
    rcases pr_le n j l d with h | h
    · exact .inl h
    · rcases pr_le1 (n + d) j l with h2 | h2
      · exact .inl (h.trans h2)
      · exact .inr (h.trans h2)
theorem pr_same {n m : Nat} {j : J} {l : List Tok} (h1 : pr n j l ≠ .out) (h2 : pr m j l ≠ .out) : pr n j l = pr m j l := by
  have a : pr n j l = pr (n + m) j l := (pr_le n j l m).resolve_left h1
  have b : pr m j l = pr (m + n) j l := (pr_le m j l n).resolve_left h2
  rw [a, b, Nat.add_comm]

/-- What is there already stands ahead of what is told. -/
theorem bk_acc : ∀ (n : Nat) (c : Bool) (a b : F) (l : List Tok), pr n (.bk c (a.app b)) l = (pr n (.bk c b) l).bind fun f m => .ok (a.app f) m
  | 0, _, _, _, _ => rfl
  | n + 1, c, a, b, l => by
    have ih := bk_acc n c
    have bb : ∀ (x : PR) (k : F → List Tok → PR) (k' : F → List Tok → PR), (x.bind k).bind k' = x.bind fun f m => (k f m).bind k' := fun x k k' => by cases x <;> rfl
    have bc : ∀ {x : PR} {k k' : F → List Tok → PR}, (∀ f m, k f m = k' f m) → x.bind k = x.bind k' := fun {x k k'} h => by
      cases x with
      | ok f m => exact h f m
      | bad p => rfl
      | out => rfl
    simp only [pr_succ, stp']
    split
    · exact ih _ _ _
    · split
      · rw [bb]; exact bc fun f m => by rw [F.app_assoc]; rfl
      · split
        · rw [bb]; exact bc fun f m => by rw [F.app_assoc]; exact ih _ _ _
        · split
          · rfl
          · rw [bb]; exact bc fun f m => by rw [F.app_assoc]; exact ih _ _ _

/-- The last tree's kind. -/
def F.lk : F → Int
  | .nil => 0
  | .cons k _ _ _ _ .nil => k
  | .cons _ _ _ _ _ r => r.lk
theorem F.lk_app : ∀ (a : F) (k : Int) (t : List UInt8) (n p : Int) (ks : F), (a.app (one k t n p ks)).lk = k
  | .nil, _, _, _, _, _ => rfl
  | .cons _ _ _ _ _ .nil, _, _, _, _, _ => rfl
  | .cons _ _ _ _ _ (.cons k2 t2 n2 p2 ks2 r), k, t, n, p, ks => by
    have := F.lk_app (.cons k2 t2 n2 p2 ks2 r) k t n p ks
    simpa [F.app, F.lk] using this

section
variable {e : Tok} {v : List Tok} (he : cls e = 56) (hv : hc v = 1 ∨ hc v = 4 ∨ hc v = 18) (hp : ha v = e.p)
include he hv hp
/-- A chunk up to the end, no Return last: behind it what goes on is told. -/
theorem bk_top : ∀ (n : Nat) (c : Bool) (a : F) (u : List Tok) (f : F), pr n (.bk c a) (u ++ [e]) = .ok f [e] → f.lk ≠ 30 → ∃ k, pr n (.bk c a) (u ++ v) = pr k (.bk c f) v
  | 0, _, _, _, _, h, _ => by cases h
  | n + 1, c, a, [], f, h, _ => by
    rw [pr_succ] at h
    have c56 : closes [e] = true := by unfold closes; rw [hc_e he]; rfl
    simp only [stp', List.nil_append] at h
    rw [if_neg (show ¬ hc [e] = 1 by rw [hc_e he]; decide), if_neg (show ¬ hc [e] = 2 by rw [hc_e he]; decide), if_neg (show ¬ (c = true ∧ hc [e] = 3) by rw [hc_e he]; exact fun x => absurd x.2 (by decide)), if_pos c56] at h
    injection h with h1 _
    exact ⟨n + 1, by rw [h1]; rfl⟩
  | n + 1, c, a, t :: u, f, h, hk => by
    have XA := x_all he hv hp n
    rw [pr_succ] at h ⊢
    simp only [stp'] at h ⊢
    have z : ∀ z, hc (t :: u ++ z) = cls t := fun _ => rfl
    have y : ∀ z, (t :: u ++ z).tail = u ++ z := fun _ => rfl
    have w : ∀ z, closes (t :: u ++ z) = closes [t] := fun _ => rfl
    rw [z, w] at h ⊢
    split at h
    · next h1 => rw [if_pos h1]; exact bk_top n c a u f h hk
    · next h1 =>
      rw [if_neg h1]
      split at h
      · next h2 =>
        exfalso
        have hl : ∀ (l : List Tok) (f m), lastP (pr n) l = .ok f m → ∃ ks, f = one 30 [] 0 (ha l) ks := by
          intro l f m h
          unfold lastP at h
          split at h
          · injection h with h _; exact ⟨_, h.symm⟩
          · split at h
            · injection h with h _; exact ⟨_, h.symm⟩
            · cases hx : pr n (.lst .nil) l.tail with
              | ok f' m' => rw [hx] at h; injection h with h _; exact ⟨_, h.symm⟩
              | bad p => rw [hx] at h; cases h
              | out => rw [hx] at h; cases h
        cases hx : lastP (pr n) (t :: u ++ [e]) with
        | ok f' m' =>
          rw [hx] at h
          obtain ⟨ks, rfl⟩ := hl _ _ _ hx
          injection h with h _
          rw [← h, F.lk_app] at hk
          exact hk rfl
        | bad p => rw [hx] at h; cases h
        | out => rw [hx] at h; cases h
      · next h2 =>
        rw [if_neg h2]
        split at h
        · next h3 =>
          rw [if_pos h3]
          cases hx : funP (pr n) (t :: u ++ [e]) with
          | ok f' m' =>
            rw [hx] at h
            obtain ⟨u', e1, e2⟩ := x_fun he XA t u f' m' hx
            rw [e1] at h
            rw [show funP (pr n) (t :: u ++ v) = _ from e2 (.inl trivial)]
            exact bk_top n c (a.app f') u' f h hk
          | bad p => rw [hx] at h; cases h
          | out => rw [hx] at h; cases h
        · next h3 =>
          rw [if_neg h3]
          split at h
          · injection h with _ h
            have := congrArg List.length h
            simp at this
          · next h4 =>
            rw [if_neg h4]
            cases hx : pr n .stat (t :: u ++ [e]) with
            | ok f' m' =>
              rw [hx] at h
              obtain ⟨u', e1, e2⟩ := XA .stat (t :: u) f' m' hx
              rw [e1] at h
              rw [e2 (.inl trivial)]
              exact bk_top n c (a.app f') u' f h hk
            | bad p => rw [hx] at h; cases h
            | out => rw [hx] at h; cases h
end
end Go.Proofs.YtlgkfhipobdcfabGreatDoor

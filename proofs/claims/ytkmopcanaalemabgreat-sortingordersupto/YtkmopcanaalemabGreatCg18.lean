/- The walk of begin: both heaps, both tables. -/
import Derived.Test.YtkmopcanaalemabGreatCg17
namespace Go.Proofs.YtkmopcanaalemabGreat
open Go.RowKit

theorem new_hp (w : World) (n : Int) (No : Nat → Prop) (hn : ∀ g, No g → g < w.heap.size) : H.Hp No ((w.alloc (.map #[] 0)).alloc (.cells #[.int .i64 n, .int .i64 0, .int .i64 0, .slice none 0 0, .map (some w.heap.size)] 105)) (w.heap.size + 1) w.heap.size 0 (.slice none 0 0) (H.newSt n) := by
  have e : (w.alloc (.map #[] 0)).heap.size = w.heap.size + 1 := by simp
  have hs := (MapKept.heap_alloc (w.alloc (.map #[] 0)) (.cells #[.int .i64 n, .int .i64 0, .int .i64 0, .slice none 0 0, .map (some w.heap.size)] 105)).1
  rw [e] at hs
  refine ⟨hs, World.ownsRow_nil _ _ _ _, (H.Rdy.made No w).alloc _, Nat.le_refl _, fun q => ?_, fun q => ?_, fun g e => (by cases e), fun g q => ?_⟩
  · have := hn _ q; omega
  · have := hn _ q; omega
  · have := hn _ q; simp; omega
theorem new_rh (w : World) (n : Int) (No : Nat → Prop) (hn : ∀ g, No g → g < w.heap.size) : RH No (w.alloc (.cells #[.int .i64 n, .int .i64 0, .int .i64 0, .slice none 0 0] 67)) w.heap.size 0 (H.newSt n) := by
  refine ⟨.slice none 0 0, ⟨n, 0, 0, []⟩, ⟨(MapKept.heap_alloc w _).1, World.ownsRow_nil _ _ _ _, Nat.le_refl _, fun q => ?_, fun g e => (by cases e), fun g q => ?_⟩, H.Sim.new n, Int.le_refl _⟩
  · have := hn _ q; omega
  · have := hn _ q; simp; omega
theorem TT.frame2 {No : Nat → Prop} {w w' : World} {T A b a S hb c : Nat} {t : TS} {s : H.St} (h : TT No w T A b a S hb c t s) (hos : w'.os = w.os) (ht : w'.tape = w.tape) (ho : w'.output = w.output) (hs : w.heap.size ≤ w'.heap.size) (hk : ∀ g, g < w.heap.size → ¬ No g → w'.heap[g]? = w.heap[g]?) :
    TT (fun g => No g ∨ (w.heap.size ≤ g ∧ g < w'.heap.size)) w' T A b a S hb c t s := by
  obtain ⟨vb, hp⟩ := h.hp
  have l1 := h.tm.pm.ltA
  have l2 := h.tm.pm.ltB
  have l3 := h.tm.pm.pt.lta
  have l4 := h.tm.pm.pt.ltb
  have k : Keep (fun g => ¬ No g) w w' := ⟨hos, ht, ho, hs, hk⟩
  refine ⟨h.tm.kept k h.nT h.nA h.nb h.na, ⟨vb, Hp.sub (Hp.frame2 hp hos ht ho hs (fun g hg hn => hk g hg (fun q => hn (.inl q)))) (fun g q => ?_)⟩, fun q => q.elim h.nT (by omega), fun q => q.elim h.nA (by omega), fun q => q.elim h.nb (by omega), fun q => q.elim h.na (by omega), h.ti, h.iv, h.p0, h.p1⟩
  rcases q with (q | q) | q
  · exact .inl (.inl q)
  · exact .inr q
  · exact .inl (.inr q)

/-- What New comes to. -/
def inP (x : Int) : Prop := 0 ≤ x ∧ x ≤ 65536
instance (x : Int) : Decidable (inP x) := inferInstanceAs (Decidable (_ ∧ _))
def nE (s : H.St) (x y : Int) : Int := if ¬ (inP x ∧ inP y) then 1 else if H.takeE s 4 ≠ 0 then H.takeE s 4 else tpE (H.takeSt s 4) x (C.up2 y)
def nS (s : H.St) (x y : Int) : H.St := if ¬ (inP x ∧ inP y) then s else if H.takeE s 4 ≠ 0 then s else if tpE (H.takeSt s 4) x (C.up2 y) ≠ 0 then H.giveSt (tpS (H.takeSt s 4) x (C.up2 y)) (H.takeId s 4) else tpS (H.takeSt s 4) x (C.up2 y)
theorem nS_inv {s : H.St} (iv : H.Inv 0 s) (x y : Int) : H.Inv 0 (nS s x y) := by
  unfold nS
  split
  · exact iv
  · split
    · exact iv
    · split
      · exact (tp_inv (iv.take 4) _ _).give _
      · exact tp_inv (iv.take 4) _ _
theorem inP.nat {x : Int} (h : inP x) : ∃ n : Nat, x = n ∧ n ≤ 65536 := ⟨x.toNat, by have := h.1; omega, by have := h.1; have := h.2; omega⟩
theorem nE_arg {s : H.St} {x y : Int} (hp : ¬ (inP x ∧ inP y)) : nE s x y = 1 ∧ nS s x y = s := ⟨by unfold nE; rw [if_pos hp], by unfold nS; rw [if_pos hp]⟩
theorem nE_four {s : H.St} {x y : Int} (hp : inP x ∧ inP y) (h4 : H.takeE s 4 ≠ 0) : nE s x y = H.takeE s 4 ∧ nS s x y = s := by
  have hp' : ¬ ¬ (inP x ∧ inP y) := fun q => q hp
  exact ⟨by unfold nE; rw [if_neg hp', if_pos h4], by unfold nS; rw [if_neg hp', if_pos h4]⟩
theorem nE_rest {s : H.St} {x y : Int} (hp : inP x ∧ inP y) (h4 : H.takeE s 4 = 0) : nE s x y = tpE (H.takeSt s 4) x (C.up2 y) ∧ nS s x y = (if tpE (H.takeSt s 4) x (C.up2 y) ≠ 0 then H.giveSt (tpS (H.takeSt s 4) x (C.up2 y)) (H.takeId s 4) else tpS (H.takeSt s 4) x (C.up2 y)) := by
  have hp' : ¬ ¬ (inP x ∧ inP y) := fun q => q hp
  have h4' : ¬ H.takeE s 4 ≠ 0 := fun q => q h4
  exact ⟨by unfold nE; rw [if_neg hp', if_neg h4'], by unfold nS; rw [if_neg hp', if_neg h4']⟩
theorem tpE_one {s : H.St} {n z : Int} (q : H.takeE s n ≠ 0) : tpE s n z = H.takeE s n ∧ tpS s n z = s := ⟨by unfold tpE; rw [if_pos q], by unfold tpS; rw [if_pos q]⟩
theorem tpE_two {s : H.St} {n z : Int} (q : H.takeE s n = 0) : tpE s n z = H.takeE (H.takeSt s n) (3 * z) ∧ tpS s n z = if H.takeE (H.takeSt s n) (3 * z) ≠ 0 then H.giveSt (H.takeSt s n) (H.takeId s n) else H.takeSt (H.takeSt s n) (3 * z) := by
  have q' : ¬ H.takeE s n ≠ 0 := fun h => h q
  exact ⟨by unfold tpE; rw [if_neg q'], by unfold tpS; rw [if_neg q']⟩
theorem new_fail {No : Nat → Prop} {w : World} {S hb c : Nat} {vb : Value} {s : H.St} (h : H.Hp No w S hb c vb s) (hc : c ≤ 700000) (iv : H.Inv 0 s) (x y : Int) (he : nE s x y ≠ 0) :
    Calls Tryz.prog 24 #[.pointer (some ⟨S, 0, none⟩), .int .i64 x, .int .i64 y] w fun e w' => e = .returned (.tuple #[.pointer none, .int .i64 (nE s x y)]) ∧ (∃ v', H.Hp No w' S hb (c + 5) v' (nS s x y)) ∧ Keep No w w' := by
  by_cases hp : inP x ∧ inP y
  · by_cases h4 : H.takeE s 4 = 0
    · obtain ⟨e1, e2⟩ := nE_rest hp h4
      rw [e1] at he
      rw [e1, e2, if_pos he]
      obtain ⟨n, rfl, hn⟩ := hp.1.nat
      obtain ⟨m, rfl, hm⟩ := hp.2.nat
      obtain ⟨z, hz, hz2, _⟩ := up2_rt (m : Nat) (by omega) (by omega)
      rw [hz] at he ⊢
      exact new_parts h hc iv n m z hn hm hz hz2.le h4 he
    · obtain ⟨e1, e2⟩ := nE_four hp h4
      rw [e1, e2]
      obtain ⟨n, rfl, hn⟩ := hp.1.nat
      obtain ⟨m, rfl, hm⟩ := hp.2.nat
      refine (new_cells h hc iv n m hn hm h4).mono ?_
      rintro e w' ⟨rfl, ⟨v', hp'⟩, kk⟩
      exact ⟨rfl, ⟨v', hp'.more (by omega)⟩, kk⟩
  · obtain ⟨e1, e2⟩ := nE_arg (s := s) hp
    rw [e1, e2]
    refine (new_arg w _ (.inr ⟨S, rfl⟩) x y (.inr ?_)).mono ?_
    · by_cases q : inP x
      · exact .inr fun q2 => hp ⟨q, q2⟩
      · exact .inl q
    · rintro e w' ⟨rfl, rfl⟩
      exact ⟨rfl, ⟨vb, h.more (by omega)⟩, Keep.refl _ _⟩
theorem rnew_fail {No : Nat → Prop} {w : World} {S c : Nat} {s : H.St} (h : RH No w S c s) (hc : c ≤ 700000) (iv : H.Inv 0 s) (x y : Int) (he : nE s x y ≠ 0) :
    Calls Tryz.prog 25 #[.pointer (some ⟨S, 0, none⟩), .int .i64 x, .int .i64 y] w fun e w' => e = .returned (.tuple #[.pointer none, .int .i64 (nE s x y)]) ∧ RH No w' S (c + 5) (nS s x y) ∧ Keep No w w' := by
  by_cases hp : inP x ∧ inP y
  · by_cases h4 : H.takeE s 4 = 0
    · obtain ⟨e1, e2⟩ := nE_rest hp h4
      rw [e1] at he
      rw [e1, e2, if_pos he]
      obtain ⟨n, rfl, hn⟩ := hp.1.nat
      obtain ⟨m, rfl, hm⟩ := hp.2.nat
      obtain ⟨z, hz, hz2, _⟩ := up2_rt (m : Nat) (by omega) (by omega)
      rw [hz] at he ⊢
      by_cases q : H.takeE (H.takeSt s 4) (n : Nat) = 0
      · obtain ⟨e3, e4⟩ := tpE_two (z := (z : Nat)) q
        rw [e3] at he
        rw [e3, e4, if_pos he]
        exact rnew_two h hc iv n m z hn hm hz hz2.le h4 q he
      · obtain ⟨e3, e4⟩ := tpE_one (z := (z : Nat)) q
        rw [e3, e4]
        refine (rnew_one h hc iv n m hn hm h4 q).mono ?_
        rintro e w' ⟨rfl, hp', kk⟩
        exact ⟨rfl, hp'.more (by omega), kk⟩
    · obtain ⟨e1, e2⟩ := nE_four hp h4
      rw [e1, e2]
      obtain ⟨n, rfl, hn⟩ := hp.1.nat
      obtain ⟨m, rfl, hm⟩ := hp.2.nat
      refine (rnew_cells h hc iv n m hn hm h4).mono ?_
      rintro e w' ⟨rfl, hp', kk⟩
      exact ⟨rfl, hp'.more (by omega), kk⟩
  · obtain ⟨e1, e2⟩ := nE_arg (s := s) hp
    rw [e1, e2]
    refine (rnew_arg w S x y ?_).mono ?_
    · by_cases q : inP x
      · exact .inr fun q2 => hp ⟨q, q2⟩
      · exact .inl q
    · rintro e w' ⟨rfl, rfl⟩
      exact ⟨rfl, h.more (by omega), Keep.refl _ _⟩
/-- What it takes that New succeeds. -/
structure Okn (s : H.St) (x y : Int) (n z : Nat) : Prop where
  ex : x = n
  hn : n ≤ 65536
  hy : ∃ m : Nat, y = m ∧ m ≤ 65536 ∧ C.up2 (m : Nat) = (z : Nat)
  hz : Rt z
  e1 : H.takeE s 4 = 0
  e2 : H.takeE (H.takeSt s 4) (n : Nat) = 0
  e3 : H.takeE (H.takeSt (H.takeSt s 4) (n : Nat)) (3 * (z : Nat)) = 0
  es : nS s x y = H.takeSt (H.takeSt (H.takeSt s 4) (n : Nat)) (3 * (z : Nat))
theorem okn {s : H.St} {x y : Int} (he : nE s x y = 0) : ∃ n z, Okn s x y n z := by
  by_cases hp : inP x ∧ inP y
  · by_cases h4 : H.takeE s 4 = 0
    · obtain ⟨e1, e2⟩ := nE_rest hp h4
      rw [e1] at he
      rw [if_neg (fun q => q he)] at e2
      obtain ⟨n, rfl, hn⟩ := hp.1.nat
      obtain ⟨m, rfl, hm⟩ := hp.2.nat
      obtain ⟨z, hz, hz2, _⟩ := up2_rt (m : Nat) (by omega) (by omega)
      rw [hz] at he e2
      by_cases q : H.takeE (H.takeSt s 4) (n : Nat) = 0
      · obtain ⟨e3, e4⟩ := tpE_two (z := (z : Nat)) q
        rw [e3] at he
        rw [if_neg (fun q => q he)] at e4
        exact ⟨n, z, rfl, hn, ⟨m, rfl, hm, hz⟩, hz2, h4, q, he, e2.trans e4⟩
      · rw [(tpE_one (z := (z : Nat)) q).1] at he; exact absurd he q
    · rw [(nE_four hp h4).1] at he; exact absurd he h4
  · rw [(nE_arg hp).1] at he; cases he

abbrev cv (l x y : Int) (v : Value) : Value := .agg #[.int .i64 l, .int .i64 x, .int .i64 y, v]
end Go.Proofs.YtkmopcanaalemabGreat

/- Stores into the sorter; the walk of ask. -/
namespace Go.Proofs.YtkmopcanaalemabGreat
open Go.RowKit

/-- An answer as a value. -/
def tolV (t : Tol) : Value := .agg #[.int .i64 t.1.1, .int .i64 t.1.2.1, .string t.1.2.2, .int .i64 t.2.1.1, .int .i64 t.2.1.2.1, .string t.2.1.2.2, .bool t.2.2.1, .int .i64 t.2.2.2]
theorem blk_set {w : World} {B j : Nat} {cur : Array Value} {t : TypeId} (h : w.heap[B]? = some (.cells cur t (0, 0))) (v : Value) : (w.setCell ⟨B, j, none⟩ v).heap[B]? = some (.cells (cur.setIfInBounds j v) t (0, 0)) := by
  have hlt := (Array.getElem?_eq_some_iff.1 h).1
  have he := (Array.getElem?_eq_some_iff.1 h).2
  show (w.heap.modify B _)[B]? = _
  rw [Array.getElem?_eq_getElem (by rw [Array.size_modify]; exact hlt), Array.getElem_modify_self, he]
  simp
/-- The sorter's own cells have changed, and nothing else that was there. -/
theorem So.to {No : Nat → Prop} {w W : World} {B : Nat} {wv : Value} {T A b a S hb c : Nat} {d : SD} (h : So No w B wv T A b a S hb c d) (k : Keep (fun g => g ≠ B ∧ g < w.heap.size) w W) (s' : SS) (hb' : W.heap[B]? = some (.cells (scl T wv s') 73 (0, 0))) (hw : s'.wt = d.1.wt) : So No W B wv T A b a S hb c (s', d.2) ∧ Keep No w W := by
  have hl := h.lt
  refine ⟨⟨hb', ?_, ?_, h.nB, h.nW⟩, ⟨k.os, k.tape, k.output, k.size, fun g hg q => k.block g hg ⟨fun e => h.nB (e ▸ q), hg⟩⟩⟩
  · show W.ownsRow (B + 1) 70 2 wv s'.wt.length (rws s'.wt.reverse)
    rw [hw]
    have hlt := h.row.lt
    refine ⟨h.row.1, ?_⟩
    rcases h.row.2 with h2 | ⟨g, cap, cur, e, h2, h3, r⟩
    · exact .inl h2
    · have q := (hlt g (by rw [e]; rfl)).2
      exact .inr ⟨g, cap, cur, e, h2, (k.block g q ⟨by omega, q⟩).trans h3, r⟩
  · exact (h.tt.frame2 k.os k.tape k.output k.size (fun g hg hn => k.block g hg ⟨fun e => hn (.inr (.inl e)), hg⟩)).sub (fun g q => .inl q)
/-- The block of an answer. -/
structure R8 (w : World) (N : Nat) (t : Tol) : Prop where
  blk : w.heap[N]? = some (.cells #[.int .i64 t.1.1, .int .i64 t.1.2.1, .string t.1.2.2, .int .i64 t.2.1.1, .int .i64 t.2.1.2.1, .string t.2.1.2.2, .bool t.2.2.1, .int .i64 t.2.2.2] 78 (0, 0))
theorem R8.cell {w : World} {N : Nat} {t : Tol} (h : R8 w N t) {j : Nat} {v : Value} (hj : (#[.int .i64 t.1.1, .int .i64 t.1.2.1, .string t.1.2.2, .int .i64 t.2.1.1, .int .i64 t.2.1.2.1, .string t.2.1.2.2, .bool t.2.2.1, .int .i64 t.2.2.2] : Array Value)[j]? = some v) : w.cell? ⟨N, j, none⟩ = some v := by
  simp only [World.cell?, h.blk]
  simpa using hj
theorem R8.free {w : World} {N : Nat} {t : Tol} (h : R8 w N t) (j : Nat) : w.frozen? ⟨N, j, none⟩ = false := by
  simp [World.frozen?, h.blk]
theorem R8.lt {w : World} {N : Nat} {t : Tol} (h : R8 w N t) : N < w.heap.size := (Array.getElem?_eq_some_iff.1 h.blk).1
def set8 (w : World) (N : Nat) (t : Tol) : World := (((((((w.setCell ⟨N, 0, none⟩ (.int .i64 t.1.1)).setCell ⟨N, 1, none⟩ (.int .i64 t.1.2.1)).setCell ⟨N, 2, none⟩ (.string t.1.2.2)).setCell ⟨N, 3, none⟩ (.int .i64 t.2.1.1)).setCell ⟨N, 4, none⟩ (.int .i64 t.2.1.2.1)).setCell ⟨N, 5, none⟩ (.string t.2.1.2.2)).setCell ⟨N, 6, none⟩ (.bool t.2.2.1)).setCell ⟨N, 7, none⟩ (.int .i64 t.2.2.2)
theorem R8.set {w : World} {N : Nat} {t : Tol} (h : R8 w N t) (t' : Tol) : R8 (set8 w N t') N t' := by
  have h0 := blk_set (j := 0) h.blk (.int .i64 t'.1.1)
  have h1 := blk_set (j := 1) h0 (.int .i64 t'.1.2.1)
  have h2 := blk_set (j := 2) h1 (.string t'.1.2.2)
  have h3 := blk_set (j := 3) h2 (.int .i64 t'.2.1.1)
  have h4 := blk_set (j := 4) h3 (.int .i64 t'.2.1.2.1)
  have h5 := blk_set (j := 5) h4 (.string t'.2.1.2.2)
  have h6 := blk_set (j := 6) h5 (.bool t'.2.2.1)
  have h7 := blk_set (j := 7) h6 (.int .i64 t'.2.2.2)
  exact ⟨h7.trans (by simp)⟩
theorem Keep.set8 {No : Nat → Prop} {w w1 : World} (h : Keep No w w1) {N : Nat} (hN : ¬ No N) (t : Tol) : Keep No w (Proofs.YtkmopcanaalemabGreat.set8 w1 N t) :=
  (((((((h.set (p := ⟨N, 0, none⟩) hN _).set (p := ⟨N, 1, none⟩) hN _).set (p := ⟨N, 2, none⟩) hN _).set (p := ⟨N, 3, none⟩) hN _).set (p := ⟨N, 4, none⟩) hN _).set (p := ⟨N, 5, none⟩) hN _).set (p := ⟨N, 6, none⟩) hN _).set (p := ⟨N, 7, none⟩) hN _
theorem R8.made (w : World) : R8 (w.alloc (.cells #[.int .i64 0, .int .i64 0, .string ⟨#[]⟩, .int .i64 0, .int .i64 0, .string ⟨#[]⟩, .bool false, .int .i64 0] 78)) w.heap.size (nil, nil, false, 0) := ⟨(MapKept.heap_alloc w _).1⟩
theorem R8.kept {No : Nat → Prop} {w w' : World} {N : Nat} {t : Tol} (h : R8 w N t) (k : Keep No w w') (hN : No N) : R8 w' N t := ⟨(k.block N h.lt hN).trans h.blk⟩
set_option maxRecDepth 20000 in
set_option maxHeartbeats 4000000 in
theorem ask_any {No : Nat → Prop} {w : World} {B : Nat} {wv : Value} {T A b a S hb c : Nat} {d : SD} (h : So No w B wv T A b a S hb c d) (k : Int) (v u : V) :
    Calls Tryz.prog 101 #[.pointer (some ⟨B, 0, none⟩), .int .i64 k, vv v, vv u] w fun e w' => e = .returned (tolV (askT v u)) ∧ So No w' B wv T A b a S hb c (askD d k) ∧ Keep No w w' := by
  have B0 := b2 w (vb v.1 v.2.1 v.2.2) (vb u.1 u.2.1 u.2.2)
  have X1 := (Bx.made w v).below (b1 _ (vb u.1 u.2.1 u.2.2))
  have X2 := Bx.made (w.alloc (vb v.1 v.2.1 v.2.2)) u
  have eX : (w.alloc (vb v.1 v.2.1 v.2.2)).heap.size = w.heap.size + 1 := by simp
  rw [eX] at X2
  have z0 : ((w.alloc (vb v.1 v.2.1 v.2.2)).alloc (vb u.1 u.2.1 u.2.2)).heap.size = w.heap.size + 2 := by simp
  have R0 := R8.made ((w.alloc (vb v.1 v.2.1 v.2.2)).alloc (vb u.1 u.2.1 u.2.2))
  rw [z0] at R0
  have B1 := bthen B0 B0.size (b1 _ (.cells #[.int .i64 0, .int .i64 0, .string ⟨#[]⟩, .int .i64 0, .int .i64 0, .string ⟨#[]⟩, .bool false, .int .i64 0] 78))
  have X1 := X1.below (b1 _ (.cells #[.int .i64 0, .int .i64 0, .string ⟨#[]⟩, .int .i64 0, .int .i64 0, .string ⟨#[]⟩, .bool false, .int .i64 0] 78))
  have X2 := X2.below (b1 _ (.cells #[.int .i64 0, .int .i64 0, .string ⟨#[]⟩, .int .i64 0, .int .i64 0, .string ⟨#[]⟩, .bool false, .int .i64 0] 78))
  obtain ⟨W0, hW0⟩ : ∃ W0, ((w.alloc (vb v.1 v.2.1 v.2.2)).alloc (vb u.1 u.2.1 u.2.2)).alloc (.cells #[.int .i64 0, .int .i64 0, .string ⟨#[]⟩, .int .i64 0, .int .i64 0, .string ⟨#[]⟩, .bool false, .int .i64 0] 78) = W0 := ⟨_, rfl⟩
  rw [hW0] at R0 B1 X1 X2
  have hs0 := h.below B1
  have hlt := h.lt
  have a4 : W0.cell? ⟨B, 4, none⟩ = some (.int .i64 d.1.ak) := hs0.cell (j := 4) rfl
  have f4 := hs0.free 4
  have kB : Keep (fun g => g ≠ B) W0 (W0.setCell ⟨B, 4, none⟩ (.int .i64 k)) := (Keep.refl _ W0).set (p := ⟨B, 4, none⟩) (fun q => q rfl) _
  have bB := blk_set (j := 4) hs0.blk (.int .i64 k)
  obtain ⟨W1, hW1⟩ : ∃ W1, W0.setCell ⟨B, 4, none⟩ (.int .i64 k) = W1 := ⟨_, rfl⟩
  rw [hW1] at bB kB
  have Y1 := X1.kept kB (by show w.heap.size ≠ B; omega)
  have Y2 := X2.kept kB (by show w.heap.size + 1 ≠ B; omega)
  have R1 := R0.kept kB (by show w.heap.size + 2 ≠ B; omega)
  have R2 := R1.set (askT v u)
  have k8 : Keep (fun g => g ≠ w.heap.size + 2) W1 (set8 W1 (w.heap.size + 2) (askT v u)) := (Keep.refl _ W1).set8 (fun q => q rfl) _
  have kA : Keep (fun g => g ≠ B ∧ g < w.heap.size) w (set8 W1 (w.heap.size + 2) (askT v u)) := ((Keep.of B1).trans (kB.sub (fun g q => q.1))).trans (k8.sub (fun g q => by have := q.2; show g ≠ w.heap.size + 2; omega))
  have bF : (set8 W1 (w.heap.size + 2) (askT v u)).heap[B]? = some (.cells (scl T wv { d.1 with ak := k }) 73 (0, 0)) := by
    have hB1 : B < W1.heap.size := (Array.getElem?_eq_some_iff.1 bB).1
    rw [k8.block B hB1 (by show B ≠ w.heap.size + 2; omega), bB]
    rfl
  have HZ : Hid (_ ∧ _) := h.to kA { d.1 with ak := k } bF rfl
  have y0 := Y1.c0
  have y1 := Y1.c1
  have y2 := Y1.c2
  have u0 := Y2.c0
  have u1 := Y2.c1
  have u2 := Y2.c2
  have HR : Hid (R8 (set8 W1 (w.heap.size + 2) (askT v u)) (w.heap.size + 2) (askT v u)) := R2
  obtain ⟨W2, hW2⟩ : ∃ W2, set8 W1 (w.heap.size + 2) (askT v u) = W2 := ⟨_, rfl⟩
  rw [hW2] at HZ HR
  unfold set8 askT at hW2
  have e0 : W1.cell? ⟨w.heap.size + 2, 0, none⟩ = some (.int .i64 0) := R1.cell (j := 0) rfl
  have e1 : W1.cell? ⟨w.heap.size + 2, 1, none⟩ = some (.int .i64 0) := R1.cell (j := 1) rfl
  have e2 : W1.cell? ⟨w.heap.size + 2, 2, none⟩ = some (.string ⟨#[]⟩) := R1.cell (j := 2) rfl
  have e3 : W1.cell? ⟨w.heap.size + 2, 3, none⟩ = some (.int .i64 0) := R1.cell (j := 3) rfl
  have e4 : W1.cell? ⟨w.heap.size + 2, 4, none⟩ = some (.int .i64 0) := R1.cell (j := 4) rfl
  have e5 : W1.cell? ⟨w.heap.size + 2, 5, none⟩ = some (.string ⟨#[]⟩) := R1.cell (j := 5) rfl
  have e6 : W1.cell? ⟨w.heap.size + 2, 6, none⟩ = some (.bool false) := R1.cell (j := 6) rfl
  have e7 : W1.cell? ⟨w.heap.size + 2, 7, none⟩ = some (.int .i64 0) := R1.cell (j := 7) rfl
  have ef := fun j => R1.free j
  unfold vb at hW0
  unfold vv vl
  unfold askD
  clear B0 B1 X1 X2 Y1 Y2 R0 R1 R2 hs0 kA kB k8 bB bF z0 eX hlt h
  go_enter Tryz.func101, Tryz.ntmps101
  go_wp2
  have r0 : W2.cell? ⟨w.heap.size + 1 + 1, 0, none⟩ = some (.int .i64 v.1) := HR.out.cell (j := 0) rfl
  have r1 : W2.cell? ⟨w.heap.size + 1 + 1, 1, none⟩ = some (.int .i64 v.2.1) := HR.out.cell (j := 1) rfl
  have r2 : W2.cell? ⟨w.heap.size + 1 + 1, 2, none⟩ = some (.string v.2.2) := HR.out.cell (j := 2) rfl
  have r3 : W2.cell? ⟨w.heap.size + 1 + 1, 3, none⟩ = some (.int .i64 u.1) := HR.out.cell (j := 3) rfl
  have r4 : W2.cell? ⟨w.heap.size + 1 + 1, 4, none⟩ = some (.int .i64 u.2.1) := HR.out.cell (j := 4) rfl
  have r5 : W2.cell? ⟨w.heap.size + 1 + 1, 5, none⟩ = some (.string u.2.2) := HR.out.cell (j := 5) rfl
  have r6 : W2.cell? ⟨w.heap.size + 1 + 1, 6, none⟩ = some (.bool true) := HR.out.cell (j := 6) rfl
  have r7 : W2.cell? ⟨w.heap.size + 1 + 1, 7, none⟩ = some (.int .i64 0) := HR.out.cell (j := 7) rfl
  exact bodyPost_ret (v := tolV (askT v u)) (by simp [results, Tryz.results101, go_sem, r0, r1, r2, r3, r4, r5, r6, r7, tolV, askT]) rfl ⟨rfl, HZ.out.1, HZ.out.2⟩
end Go.Proofs.YtkmopcanaalemabGreat

/- The walk of end: of the work nothing is kept but how it ended. -/
namespace Go.Proofs.YtkmopcanaalemabGreat
open Go.RowKit

/-- The sorter's block behind its end. -/
def setE (w : World) (B T : Nat) (e : Int) : World := ((((((((((((((((((w.setCell ⟨B, 0, none⟩ (.pointer (some ⟨T, 0, none⟩))).setCell ⟨B, 1, none⟩ (.int .i64 0)).setCell ⟨B, 2, none⟩ (.int .i64 0)).setCell ⟨B, 3, none⟩ (.slice none 0 0)).setCell ⟨B, 4, none⟩ (.int .i64 6)).setCell ⟨B, 5, none⟩ (.int .i64 0)).setCell ⟨B, 6, none⟩ (.int .i64 0)).setCell ⟨B, 7, none⟩ (.int .i64 0)).setCell ⟨B, 8, none⟩ (.int .i64 0)).setCell ⟨B, 9, none⟩ (.int .i64 0)).setCell ⟨B, 10, none⟩ (.string ⟨#[]⟩)).setCell ⟨B, 11, none⟩ (.int .i64 0)).setCell ⟨B, 12, none⟩ (.int .i64 0)).setCell ⟨B, 13, none⟩ (.string ⟨#[]⟩)).setCell ⟨B, 14, none⟩ (.int .i64 0)).setCell ⟨B, 15, none⟩ (.int .i64 0)).setCell ⟨B, 16, none⟩ (.string ⟨#[]⟩)).setCell ⟨B, 17, none⟩ (.int .i64 e))
theorem setE_blk {w : World} {B T : Nat} {wv : Value} {s : SS} (h : w.heap[B]? = some (.cells (scl T wv s) 73 (0, 0))) (e : Int) : (setE w B T e).heap[B]? = some (.cells (scl T (.slice none 0 0) (endS e)) 73 (0, 0)) := by
  have h0 := blk_set (j := 0) h (.pointer (some ⟨T, 0, none⟩))
  have h1 := blk_set (j := 1) h0 (.int .i64 0)
  have h2 := blk_set (j := 2) h1 (.int .i64 0)
  have h3 := blk_set (j := 3) h2 (.slice none 0 0)
  have h4 := blk_set (j := 4) h3 (.int .i64 6)
  have h5 := blk_set (j := 5) h4 (.int .i64 0)
  have h6 := blk_set (j := 6) h5 (.int .i64 0)
  have h7 := blk_set (j := 7) h6 (.int .i64 0)
  have h8 := blk_set (j := 8) h7 (.int .i64 0)
  have h9 := blk_set (j := 9) h8 (.int .i64 0)
  have h10 := blk_set (j := 10) h9 (.string ⟨#[]⟩)
  have h11 := blk_set (j := 11) h10 (.int .i64 0)
  have h12 := blk_set (j := 12) h11 (.int .i64 0)
  have h13 := blk_set (j := 13) h12 (.string ⟨#[]⟩)
  have h14 := blk_set (j := 14) h13 (.int .i64 0)
  have h15 := blk_set (j := 15) h14 (.int .i64 0)
  have h16 := blk_set (j := 16) h15 (.string ⟨#[]⟩)
  have h17 := blk_set (j := 17) h16 (.int .i64 e)
  exact h17.trans (by simp [scl, endS, nil])
theorem setE_keep (w : World) (B T : Nat) (e : Int) (P : Nat → Prop) : Keep (fun g => g ≠ B ∧ P g) w (setE w B T e) := (((((((((((((((((((Keep.refl _ w).set (p := ⟨B, 0, none⟩) (fun q => q.1 rfl) _).set (p := ⟨B, 1, none⟩) (fun q => q.1 rfl) _).set (p := ⟨B, 2, none⟩) (fun q => q.1 rfl) _).set (p := ⟨B, 3, none⟩) (fun q => q.1 rfl) _).set (p := ⟨B, 4, none⟩) (fun q => q.1 rfl) _).set (p := ⟨B, 5, none⟩) (fun q => q.1 rfl) _).set (p := ⟨B, 6, none⟩) (fun q => q.1 rfl) _).set (p := ⟨B, 7, none⟩) (fun q => q.1 rfl) _).set (p := ⟨B, 8, none⟩) (fun q => q.1 rfl) _).set (p := ⟨B, 9, none⟩) (fun q => q.1 rfl) _).set (p := ⟨B, 10, none⟩) (fun q => q.1 rfl) _).set (p := ⟨B, 11, none⟩) (fun q => q.1 rfl) _).set (p := ⟨B, 12, none⟩) (fun q => q.1 rfl) _).set (p := ⟨B, 13, none⟩) (fun q => q.1 rfl) _).set (p := ⟨B, 14, none⟩) (fun q => q.1 rfl) _).set (p := ⟨B, 15, none⟩) (fun q => q.1 rfl) _).set (p := ⟨B, 16, none⟩) (fun q => q.1 rfl) _).set (p := ⟨B, 17, none⟩) (fun q => q.1 rfl) _)
theorem So.ends {No : Nat → Prop} {w W : World} {B : Nat} {wv : Value} {T A b a S hb c : Nat} {d : SD} (h : So No w B wv T A b a S hb c d) (k : Keep (fun g => g ≠ B ∧ g < w.heap.size) w W) (e : Int) (hb' : W.heap[B]? = some (.cells (scl T (.slice none 0 0) (endS e)) 73 (0, 0))) : So No W B (.slice none 0 0) T A b a S hb c (endD d e) ∧ Keep No w W := by
  refine ⟨⟨hb', World.ownsRow_nil _ _ _ _, ?_, h.nB, fun g q => by cases q⟩, ⟨k.os, k.tape, k.output, k.size, fun g hg q => k.block g hg ⟨fun e => h.nB (e ▸ q), hg⟩⟩⟩
  exact (h.tt.frame2 k.os k.tape k.output k.size (fun g hg hn => k.block g hg ⟨fun e => hn (.inr (.inl e)), hg⟩)).sub (fun g q => by
    rcases q with q | q | q
    · exact .inl (.inl q)
    · exact .inl (.inr (.inl q))
    · cases q)
set_option maxRecDepth 20000 in
set_option maxHeartbeats 4000000 in
theorem end_any {No : Nat → Prop} {w : World} {B : Nat} {wv : Value} {T A b a S hb c : Nat} {d : SD} (h : So No w B wv T A b a S hb c d) (e : Int) :
    Calls Tryz.prog 98 #[.pointer (some ⟨B, 0, none⟩), .int .i64 e] w fun en w' => en = .returned (tolV (endT e)) ∧ So No w' B (.slice none 0 0) T A b a S hb c (endD d e) ∧ Keep No w w' := by
  have B1 := b1 w (.cells #[.int .i64 0, .int .i64 0, .string ⟨#[]⟩, .int .i64 0, .int .i64 0, .string ⟨#[]⟩, .bool false, .int .i64 0] 78)
  have R0 := R8.made w
  obtain ⟨W0, hW0⟩ : ∃ W0, w.alloc (.cells #[.int .i64 0, .int .i64 0, .string ⟨#[]⟩, .int .i64 0, .int .i64 0, .string ⟨#[]⟩, .bool false, .int .i64 0] 78) = W0 := ⟨_, rfl⟩
  rw [hW0] at R0 B1
  have hs0 := h.below B1
  have hlt := h.lt
  have bB := setE_blk hs0.blk e
  have kB := setE_keep W0 B T e (fun _ => True)
  have a0 := hs0.cell (j := 0) (v := (.pointer (some ⟨T, 0, none⟩))) rfl
  have a1 := hs0.cell (j := 1) (v := (.int .i64 d.1.lo)) rfl
  have a2 := hs0.cell (j := 2) (v := (.int .i64 d.1.up)) rfl
  have a3 := hs0.cell (j := 3) (v := wv) rfl
  have a4 := hs0.cell (j := 4) (v := (.int .i64 d.1.ak)) rfl
  have a5 := hs0.cell (j := 5) (v := (.int .i64 d.1.p)) rfl
  have a6 := hs0.cell (j := 6) (v := (.int .i64 d.1.i)) rfl
  have a7 := hs0.cell (j := 7) (v := (.int .i64 d.1.j)) rfl
  have a8 := hs0.cell (j := 8) (v := (.int .i64 d.1.x.1)) rfl
  have a9 := hs0.cell (j := 9) (v := (.int .i64 d.1.x.2.1)) rfl
  have a10 := hs0.cell (j := 10) (v := (.string d.1.x.2.2)) rfl
  have a11 := hs0.cell (j := 11) (v := (.int .i64 d.1.y.1)) rfl
  have a12 := hs0.cell (j := 12) (v := (.int .i64 d.1.y.2.1)) rfl
  have a13 := hs0.cell (j := 13) (v := (.string d.1.y.2.2)) rfl
  have a14 := hs0.cell (j := 14) (v := (.int .i64 d.1.pv.1)) rfl
  have a15 := hs0.cell (j := 15) (v := (.int .i64 d.1.pv.2.1)) rfl
  have a16 := hs0.cell (j := 16) (v := (.string d.1.pv.2.2)) rfl
  have a17 := hs0.cell (j := 17) (v := (.int .i64 d.1.er)) rfl
  have hfr := hs0.free
  obtain ⟨W1, hW1⟩ : ∃ W1, setE W0 B T e = W1 := ⟨_, rfl⟩
  rw [hW1] at bB kB
  have R1 := R0.kept kB ⟨by omega, trivial⟩
  have R2 := R1.set (endT e)
  have k8 : Keep (fun g => g ≠ w.heap.size) W1 (set8 W1 w.heap.size (endT e)) := (Keep.refl _ W1).set8 (fun q => q rfl) _
  have kA : Keep (fun g => g ≠ B ∧ g < w.heap.size) w (set8 W1 w.heap.size (endT e)) := ((Keep.of B1).trans (kB.sub (fun g q => ⟨q.1, trivial⟩))).trans (k8.sub (fun g q => by have := q.2; show g ≠ w.heap.size; omega))
  have bF : (set8 W1 w.heap.size (endT e)).heap[B]? = some (.cells (scl T (.slice none 0 0) (endS e)) 73 (0, 0)) := by
    have hB1 : B < W1.heap.size := (Array.getElem?_eq_some_iff.1 bB).1
    rw [k8.block B hB1 (by show B ≠ w.heap.size; omega), bB]
  have HZ : Hid (_ ∧ _) := h.ends kA e bF
  have HR : Hid (R8 (set8 W1 w.heap.size (endT e)) w.heap.size (endT e)) := R2
  obtain ⟨W2, hW2⟩ : ∃ W2, set8 W1 w.heap.size (endT e) = W2 := ⟨_, rfl⟩
  rw [hW2] at HZ HR
  unfold set8 endT nil at hW2
  unfold setE at hW1
  have e0 : W1.cell? ⟨w.heap.size, 0, none⟩ = some (.int .i64 0) := R1.cell (j := 0) rfl
  have e1 : W1.cell? ⟨w.heap.size, 1, none⟩ = some (.int .i64 0) := R1.cell (j := 1) rfl
  have e2 : W1.cell? ⟨w.heap.size, 2, none⟩ = some (.string ⟨#[]⟩) := R1.cell (j := 2) rfl
  have e3 : W1.cell? ⟨w.heap.size, 3, none⟩ = some (.int .i64 0) := R1.cell (j := 3) rfl
  have e4 : W1.cell? ⟨w.heap.size, 4, none⟩ = some (.int .i64 0) := R1.cell (j := 4) rfl
  have e5 : W1.cell? ⟨w.heap.size, 5, none⟩ = some (.string ⟨#[]⟩) := R1.cell (j := 5) rfl
  have e6 : W1.cell? ⟨w.heap.size, 6, none⟩ = some (.bool false) := R1.cell (j := 6) rfl
  have e7 : W1.cell? ⟨w.heap.size, 7, none⟩ = some (.int .i64 0) := R1.cell (j := 7) rfl
  have ef := fun j => R1.free j
  clear B1 R0 R1 R2 hs0 kA kB k8 bB bF hlt h
  go_enter Tryz.func98, Tryz.ntmps98
  go_wp2
  have r0 : W2.cell? ⟨w.heap.size, 0, none⟩ = some (.int .i64 0) := HR.out.cell (j := 0) rfl
  have r1 : W2.cell? ⟨w.heap.size, 1, none⟩ = some (.int .i64 0) := HR.out.cell (j := 1) rfl
  have r2 : W2.cell? ⟨w.heap.size, 2, none⟩ = some (.string ⟨#[]⟩) := HR.out.cell (j := 2) rfl
  have r3 : W2.cell? ⟨w.heap.size, 3, none⟩ = some (.int .i64 0) := HR.out.cell (j := 3) rfl
  have r4 : W2.cell? ⟨w.heap.size, 4, none⟩ = some (.int .i64 0) := HR.out.cell (j := 4) rfl
  have r5 : W2.cell? ⟨w.heap.size, 5, none⟩ = some (.string ⟨#[]⟩) := HR.out.cell (j := 5) rfl
  have r6 : W2.cell? ⟨w.heap.size, 6, none⟩ = some (.bool false) := HR.out.cell (j := 6) rfl
  have r7 : W2.cell? ⟨w.heap.size, 7, none⟩ = some (.int .i64 e) := HR.out.cell (j := 7) rfl
  exact bodyPost_ret (v := tolV (endT e)) (by simp [results, Tryz.results98, go_sem, r0, r1, r2, r3, r4, r5, r6, r7, tolV, endT, nil]) rfl ⟨rfl, HZ.out.1, HZ.out.2⟩
end Go.Proofs.YtkmopcanaalemabGreat

/- The sorter among new blocks; the walk of rise. -/
namespace Go.Proofs.YtkmopcanaalemabGreat
open Go.RowKit

/-- New blocks are others' blocks, too. -/
theorem So.news {No : Nat → Prop} {w W : World} {B : Nat} {wv : Value} {T A b a S hb c : Nat} {d : SD} (h : So No w B wv T A b a S hb c d) (k : Below w.heap.size w W) : So (fun g => No g ∨ (w.heap.size ≤ g ∧ g < W.heap.size)) W B wv T A b a S hb c d := by
  have hs := h.below k
  have hl := h.lt
  refine ⟨hs.blk, hs.row, (h.tt.news k).sub (fun g q => ?_), fun q => q.elim h.nB (by omega), fun g e q => q.elim (h.nW g e) (fun z => by have := (h.row.lt g e).2; omega)⟩
  rcases q with (q | q) | q | q
  · exact .inl (.inl q)
  · exact .inr q
  · exact .inl (.inr (.inl q))
  · exact .inl (.inr (.inr q))
theorem So.drew {No : Nat → Prop} {w : World} {B : Nat} {wv : Value} {T A b a S hb c : Nat} {d : SD} (h : So No w B wv T A b a S hb c d) : So No w.drew B wv T A b a S hb c d := h.below (bdrew1 w)
/-- A block of others may change. -/
theorem So.out {No No2 : Nat → Prop} {w W : World} {B : Nat} {wv : Value} {T A b a S hb c : Nat} {d : SD} (h : So No2 w B wv T A b a S hb c d) (hn : ∀ g, No g → No2 g) (k : Keep (fun g => ¬ No2 g) w W) : So No W B wv T A b a S hb c d := by
  refine ⟨(k.block B h.lt h.nB).trans h.blk, ?_, ?_, fun q => h.nB (hn _ q), fun g e q => h.nW g e (hn _ q)⟩
  · have hlt := h.row.lt
    refine ⟨h.row.1, ?_⟩
    rcases h.row.2 with h2 | ⟨g, cap, cur, e, h2, h3, r⟩
    · exact .inl h2
    · have e' : wv.ownBlock = some g := by rw [e]; rfl
      exact .inr ⟨g, cap, cur, e, h2, (k.block g (hlt g e').2 (h.nW g e')).trans h3, r⟩
  · refine (h.tt.frame2 k.os k.tape k.output k.size (fun g hg q => k.block g hg (fun z => q (.inl z)))).sub (fun g q => .inl ?_)
    rcases q with q | q | q
    · exact .inl (hn _ q)
    · exact .inr (.inl q)
    · exact .inr (.inr q)
/-- A value stored into three cells of the sorter. -/
def stX (w : World) (B j : Nat) (x : V) : World := ((w.setCell ⟨B, j, none⟩ (.int .i64 x.1)).setCell ⟨B, j + 1, none⟩ (.int .i64 x.2.1)).setCell ⟨B, j + 2, none⟩ (.string x.2.2)
theorem stX_blk {w : World} {B : Nat} {cur : Array Value} {t : TypeId} (h : w.heap[B]? = some (.cells cur t (0, 0))) (j : Nat) (x : V) : (stX w B j x).heap[B]? = some (.cells (((cur.setIfInBounds j (.int .i64 x.1)).setIfInBounds (j + 1) (.int .i64 x.2.1)).setIfInBounds (j + 2) (.string x.2.2)) t (0, 0)) := blk_set (blk_set (blk_set h _) _) _
theorem stX_keep (w : World) (B j : Nat) (x : V) : Keep (fun g => g ≠ B) w (stX w B j x) := (((Keep.refl _ w).set (p := ⟨B, j, none⟩) (fun q => q rfl) _).set (p := ⟨B, j + 1, none⟩) (fun q => q rfl) _).set (p := ⟨B, j + 2, none⟩) (fun q => q rfl) _
set_option maxRecDepth 20000 in
set_option maxHeartbeats 4000000 in
theorem rise_any {No : Nat → Prop} {w : World} {B : Nat} {wv : Value} {T A b a S hb c : Nat} {d : SD} (h : So No w B wv T A b a S hb c d) (hc : c ≤ 900000) (h1 : -4611686018427387904 ≤ d.1.i) (h2 : d.1.i ≤ 4611686018427387904) :
    Calls Tryz.prog 104 #[.pointer (some ⟨B, 0, none⟩)] w fun e w' => e = .returned (tolV (riseR d).2) ∧ So No w' B wv T A b a S hb (c + 1) (riseR d).1 ∧ Keep No w w' := by
  have B1 := b1 w (.cells #[.int .i64 0, .int .i64 0, .string ⟨#[]⟩, .int .i64 0, .int .i64 0, .string ⟨#[]⟩, .bool false, .int .i64 0] 78)
  have R0 := R8.made w
  have z0 : (w.alloc (.cells #[.int .i64 0, .int .i64 0, .string ⟨#[]⟩, .int .i64 0, .int .i64 0, .string ⟨#[]⟩, .bool false, .int .i64 0] 78)).heap.size = w.heap.size + 1 := by simp
  obtain ⟨W0, hW0⟩ : ∃ W0, w.alloc (.cells #[.int .i64 0, .int .i64 0, .string ⟨#[]⟩, .int .i64 0, .int .i64 0, .string ⟨#[]⟩, .bool false, .int .i64 0] 78) = W0 := ⟨_, rfl⟩
  rw [hW0] at R0 B1 z0
  have hlt := h.lt
  have HNo : Hid ((∀ g, No g → g < w.heap.size) ∧ ¬ No B) := ⟨fun g q => by
    obtain ⟨vb, hp⟩ := h.tt.hp
    exact hp.nos _ (.inl (.inl q)), h.nB⟩
  have s0 := h.news B1
  obtain ⟨N2, hN2⟩ : ∃ N2, (fun g => No g ∨ (w.heap.size ≤ g ∧ g < W0.heap.size)) = N2 := ⟨_, rfl⟩
  have HN : Hid ((∀ g, No g → N2 g) ∧ N2 w.heap.size ∧ (∀ g, N2 g → No g ∨ w.heap.size ≤ g)) := by
    subst hN2
    exact ⟨fun g q => .inl q, .inr ⟨Nat.le_refl _, by omega⟩, fun g q => q.imp id (fun z => z.1)⟩
  rw [hN2] at s0
  clear hN2
  have a6 : W0.cell? ⟨B, 6, none⟩ = some (.int .i64 d.1.i) := s0.cell (j := 6) rfl
  have f0 := s0.free
  have k1 : Keep (fun g => g ≠ B) W0 (W0.setCell ⟨B, 6, none⟩ (.int .i64 (d.1.i + 1))) := (Keep.refl _ W0).set (p := ⟨B, 6, none⟩) (fun q => q rfl) _
  have s1 := s0.to (k1.sub (fun g q => q.1)) { d.1 with i := d.1.i + 1 } ((blk_set (j := 6) s0.blk (.int .i64 (d.1.i + 1))).trans rfl) rfl
  obtain ⟨W1, hW1⟩ : ∃ W1, W0.setCell ⟨B, 6, none⟩ (.int .i64 (d.1.i + 1)) = W1 := ⟨_, rfl⟩
  rw [hW1] at k1 s1
  have R1 := R0.kept k1 (by show w.heap.size ≠ B; omega)
  have a6' : W1.cell? ⟨B, 6, none⟩ = some (.int .i64 (d.1.i + 1)) := s1.1.cell (j := 6) rfl
  have CR := read_any s1.1 hc (d.1.i + 1) (by omega) (by omega)
  obtain ⟨x, hx⟩ : ∃ x, rdV ({ d.1 with i := d.1.i + 1 }, d.2) (d.1.i + 1) = x := ⟨_, rfl⟩
  rw [hx] at CR
  have HX : Hid (rdV ({ d.1 with i := d.1.i + 1 }, d.2) (d.1.i + 1) = x) := hx
  have HR1 : Hid (R8 W1 w.heap.size (nil, nil, false, 0)) := R1
  have HK : Hid (Keep No w W1) := ⟨s1.2.os.trans B1.os, s1.2.tape.trans B1.tape, s1.2.output.trans B1.output, Nat.le_trans B1.size s1.2.size, fun g hg q => (s1.2.block g (by omega) (HN.out.1 g q)).trans (B1.block g hg)⟩
  have wi : IntKind.i64.wrap (d.1.i + 1) = d.1.i + 1 := by rw [IntKind.wrap_i64]; omega
  unfold vv vl at CR
  clear hx s0 s1 k1 R0 R1 B1 z0 h
  go_enter Tryz.func104, Tryz.ntmps104
  go_wp2_with fail
  refine CR.mono ?_
  rintro e w2 ⟨rfl, s2, k2⟩
  have b8 : w2.cell? ⟨B, 8, none⟩ = some (.int .i64 d.1.x.1) := s2.cell (j := 8) rfl
  have b9 : w2.cell? ⟨B, 9, none⟩ = some (.int .i64 d.1.x.2.1) := s2.cell (j := 9) rfl
  have b10 : w2.cell? ⟨B, 10, none⟩ = some (.string d.1.x.2.2) := s2.cell (j := 10) rfl
  have f2 := s2.free
  have k3 := stX_keep w2 B 8 x
  have s3 := s2.to (k3.sub (fun g q => q.1)) { d.1 with i := d.1.i + 1, x := x } ((stX_blk s2.blk 8 x).trans rfl) rfl
  have R2 := (HR1.out.kept k2 (.inl HN.out.2.1)).kept k3 (by show w.heap.size ≠ B; omega)
  obtain ⟨W3, hW3⟩ : ∃ W3, stX w2 B 8 x = W3 := ⟨_, rfl⟩
  rw [hW3] at k3 s3 R2
  unfold stX at hW3
  have CA := ask_any s3.1.drew 4 x d.1.pv
  have e8 : W3.cell? ⟨B, 8, none⟩ = some (.int .i64 x.1) := s3.1.cell (j := 8) rfl
  have e9 : W3.cell? ⟨B, 9, none⟩ = some (.int .i64 x.2.1) := s3.1.cell (j := 9) rfl
  have e10 : W3.cell? ⟨B, 10, none⟩ = some (.string x.2.2) := s3.1.cell (j := 10) rfl
  have e14 : W3.cell? ⟨B, 14, none⟩ = some (.int .i64 d.1.pv.1) := s3.1.cell (j := 14) rfl
  have e15 : W3.cell? ⟨B, 15, none⟩ = some (.int .i64 d.1.pv.2.1) := s3.1.cell (j := 15) rfl
  have e16 : W3.cell? ⟨B, 16, none⟩ = some (.string d.1.pv.2.2) := s3.1.cell (j := 16) rfl
  have HK3 : Hid (Keep No w W3) := (HK.out.trans (k2.sub (fun g q => .inl (HN.out.1 g q)))).trans (k3.sub (fun g q e => HNo.out.2 (e ▸ q)))
  have HR3 : Hid (R8 W3 w.heap.size (nil, nil, false, 0)) := R2
  have HF : Hid (∀ w4, Keep N2 W3.drew w4 → So N2 w4 B wv T A b a S hb (c + 1) (riseR d).1 → R8 w4 w.heap.size (nil, nil, false, 0) ∧ R8 (set8 w4 w.heap.size (riseR d).2) w.heap.size (riseR d).2 ∧ So No (set8 w4 w.heap.size (riseR d).2) B wv T A b a S hb (c + 1) (riseR d).1 ∧ Keep No w (set8 w4 w.heap.size (riseR d).2)) := fun w4 k4 s4 => by
    have K4 : Keep N2 W3 w4 := ((Keep.refl N2 W3).drew).trans k4
    have r4 := HR3.out.kept K4 HN.out.2.1
    refine ⟨r4, r4.set _, s4.out HN.out.1 ((Keep.refl _ w4).set8 (fun q => q HN.out.2.1) _), ?_⟩
    exact (HK3.out.trans (K4.sub HN.out.1)).set8 (fun q => by have := HNo.out.1 _ q; omega) _
  have hT : (riseR d).2 = askT x d.1.pv := by
    unfold riseR
    simp only [HX.out]
    rfl
  have hD : (riseR d).1 = askD ({ d.1 with i := d.1.i + 1, x := x }, (rdD ({ d.1 with i := d.1.i + 1 }, d.2) (d.1.i + 1)).2) 4 := by
    unfold riseR
    simp only [HX.out]
    rfl
  rw [← hD] at CA
  unfold vv vl at CA
  clear hD s2 s3 k2 k3 R2 CR HR1 HR3 HK HK3 a6 a6' f0 HX
  go_wp2_with fail
  refine wp_tail 9 (by kernel_rfl) (by kernel_rfl) ?_
  simp only [List.take_succ_cons, List.take_zero, List.drop_succ_cons, List.drop_zero]
  repeat still_step
  refine wpStill_nil ?_
  go_wp2_with fail
  refine CA.mono ?_
  rintro e w4 ⟨rfl, s4, k4⟩
  obtain ⟨r4, r5, s5, k5⟩ := HF.out w4 k4 s4
  rw [hT] at r5 s5 k5
  have HZ : Hid (_ ∧ _ ∧ _) := ⟨r5, s5, k5⟩
  obtain ⟨W5, hW5⟩ : ∃ W5, set8 w4 w.heap.size (askT x d.1.pv) = W5 := ⟨_, rfl⟩
  rw [hW5] at HZ
  unfold set8 askT at hW5
  unfold tolV askT
  have n0 : w4.cell? ⟨w.heap.size, 0, none⟩ = some (.int .i64 0) := r4.cell (j := 0) rfl
  have n1 : w4.cell? ⟨w.heap.size, 1, none⟩ = some (.int .i64 0) := r4.cell (j := 1) rfl
  have n2 : w4.cell? ⟨w.heap.size, 2, none⟩ = some (.string ⟨#[]⟩) := r4.cell (j := 2) rfl
  have n3 : w4.cell? ⟨w.heap.size, 3, none⟩ = some (.int .i64 0) := r4.cell (j := 3) rfl
  have n4 : w4.cell? ⟨w.heap.size, 4, none⟩ = some (.int .i64 0) := r4.cell (j := 4) rfl
  have n5 : w4.cell? ⟨w.heap.size, 5, none⟩ = some (.string ⟨#[]⟩) := r4.cell (j := 5) rfl
  have n6 : w4.cell? ⟨w.heap.size, 6, none⟩ = some (.bool false) := r4.cell (j := 6) rfl
  have n7 : w4.cell? ⟨w.heap.size, 7, none⟩ = some (.int .i64 0) := r4.cell (j := 7) rfl
  have nf := fun j => r4.free j
  clear r4 r5 s5 k5 s4 k4 HF CA e8 e9 e10 e14 e15 e16
  go_wp2
  obtain ⟨q1, q2, q3⟩ := HZ.out
  have r0 : W5.cell? ⟨w.heap.size, 0, none⟩ = some (.int .i64 x.1) := q1.cell (j := 0) rfl
  have r1 : W5.cell? ⟨w.heap.size, 1, none⟩ = some (.int .i64 x.2.1) := q1.cell (j := 1) rfl
  have r2 : W5.cell? ⟨w.heap.size, 2, none⟩ = some (.string x.2.2) := q1.cell (j := 2) rfl
  have r3 : W5.cell? ⟨w.heap.size, 3, none⟩ = some (.int .i64 d.1.pv.1) := q1.cell (j := 3) rfl
  have r4 : W5.cell? ⟨w.heap.size, 4, none⟩ = some (.int .i64 d.1.pv.2.1) := q1.cell (j := 4) rfl
  have r5 : W5.cell? ⟨w.heap.size, 5, none⟩ = some (.string d.1.pv.2.2) := q1.cell (j := 5) rfl
  have r6 : W5.cell? ⟨w.heap.size, 6, none⟩ = some (.bool true) := q1.cell (j := 6) rfl
  have r7 : W5.cell? ⟨w.heap.size, 7, none⟩ = some (.int .i64 0) := q1.cell (j := 7) rfl
  exact bodyPost_ret (v := tolV (askT x d.1.pv)) (by simp [results, Tryz.results104, go_sem, r0, r1, r2, r3, r4, r5, r6, r7, tolV, askT]) rfl ⟨by rw [hT], q2, q3⟩
end Go.Proofs.YtkmopcanaalemabGreat

/- The walk of fall. -/
namespace Go.Proofs.YtkmopcanaalemabGreat
open Go.RowKit

set_option maxRecDepth 20000 in
set_option maxHeartbeats 4000000 in
theorem fall_any {No : Nat → Prop} {w : World} {B : Nat} {wv : Value} {T A b a S hb c : Nat} {d : SD} (h : So No w B wv T A b a S hb c d) (hc : c ≤ 900000) (h1 : -4611686018427387904 ≤ d.1.j) (h2 : d.1.j ≤ 4611686018427387904) :
    Calls Tryz.prog 103 #[.pointer (some ⟨B, 0, none⟩)] w fun e w' => e = .returned (tolV (fallR d).2) ∧ So No w' B wv T A b a S hb (c + 1) (fallR d).1 ∧ Keep No w w' := by
  have B1 := b1 w (.cells #[.int .i64 0, .int .i64 0, .string ⟨#[]⟩, .int .i64 0, .int .i64 0, .string ⟨#[]⟩, .bool false, .int .i64 0] 78)
  have R0 := R8.made w
  have z0 : (w.alloc (.cells #[.int .i64 0, .int .i64 0, .string ⟨#[]⟩, .int .i64 0, .int .i64 0, .string ⟨#[]⟩, .bool false, .int .i64 0] 78)).heap.size = w.heap.size + 1 := by simp
  obtain ⟨W0, hW0⟩ : ∃ W0, w.alloc (.cells #[.int .i64 0, .int .i64 0, .string ⟨#[]⟩, .int .i64 0, .int .i64 0, .string ⟨#[]⟩, .bool false, .int .i64 0] 78) = W0 := ⟨_, rfl⟩
  rw [hW0] at R0 B1 z0
  have hlt := h.lt
  have HNo : Hid ((∀ g, No g → g < w.heap.size) ∧ ¬ No B) := ⟨fun g q => by
    obtain ⟨vb, hp⟩ := h.tt.hp
    exact hp.nos _ (.inl (.inl q)), h.nB⟩
  have s0 := h.news B1
  obtain ⟨N2, hN2⟩ : ∃ N2, (fun g => No g ∨ (w.heap.size ≤ g ∧ g < W0.heap.size)) = N2 := ⟨_, rfl⟩
  have HN : Hid ((∀ g, No g → N2 g) ∧ N2 w.heap.size ∧ (∀ g, N2 g → No g ∨ w.heap.size ≤ g)) := by
    subst hN2
    exact ⟨fun g q => .inl q, .inr ⟨Nat.le_refl _, by omega⟩, fun g q => q.imp id (fun z => z.1)⟩
  rw [hN2] at s0
  clear hN2
  have a6 : W0.cell? ⟨B, 7, none⟩ = some (.int .i64 d.1.j) := s0.cell (j := 7) rfl
  have f0 := s0.free
  have k1 : Keep (fun g => g ≠ B) W0 (W0.setCell ⟨B, 7, none⟩ (.int .i64 (d.1.j - 1))) := (Keep.refl _ W0).set (p := ⟨B, 7, none⟩) (fun q => q rfl) _
  have s1 := s0.to (k1.sub (fun g q => q.1)) { d.1 with j := d.1.j - 1 } ((blk_set (j := 7) s0.blk (.int .i64 (d.1.j - 1))).trans rfl) rfl
  obtain ⟨W1, hW1⟩ : ∃ W1, W0.setCell ⟨B, 7, none⟩ (.int .i64 (d.1.j - 1)) = W1 := ⟨_, rfl⟩
  rw [hW1] at k1 s1
  have R1 := R0.kept k1 (by show w.heap.size ≠ B; omega)
  have a6' : W1.cell? ⟨B, 7, none⟩ = some (.int .i64 (d.1.j - 1)) := s1.1.cell (j := 7) rfl
  have CR := read_any s1.1 hc (d.1.j - 1) (by omega) (by omega)
  obtain ⟨x, hx⟩ : ∃ x, rdV ({ d.1 with j := d.1.j - 1 }, d.2) (d.1.j - 1) = x := ⟨_, rfl⟩
  rw [hx] at CR
  have HX : Hid (rdV ({ d.1 with j := d.1.j - 1 }, d.2) (d.1.j - 1) = x) := hx
  have HR1 : Hid (R8 W1 w.heap.size (nil, nil, false, 0)) := R1
  have HK : Hid (Keep No w W1) := ⟨s1.2.os.trans B1.os, s1.2.tape.trans B1.tape, s1.2.output.trans B1.output, Nat.le_trans B1.size s1.2.size, fun g hg q => (s1.2.block g (by omega) (HN.out.1 g q)).trans (B1.block g hg)⟩
  have wi : IntKind.i64.wrap (d.1.j - 1) = d.1.j - 1 := by rw [IntKind.wrap_i64]; omega
  unfold vv vl at CR
  clear hx s0 s1 k1 R0 R1 B1 z0 h
  go_enter Tryz.func103, Tryz.ntmps103
  go_wp2_with fail
  refine CR.mono ?_
  rintro e w2 ⟨rfl, s2, k2⟩
  have b8 : w2.cell? ⟨B, 11, none⟩ = some (.int .i64 d.1.y.1) := s2.cell (j := 11) rfl
  have b9 : w2.cell? ⟨B, 12, none⟩ = some (.int .i64 d.1.y.2.1) := s2.cell (j := 12) rfl
  have b10 : w2.cell? ⟨B, 13, none⟩ = some (.string d.1.y.2.2) := s2.cell (j := 13) rfl
  have f2 := s2.free
  have k3 := stX_keep w2 B 11 x
  have s3 := s2.to (k3.sub (fun g q => q.1)) { d.1 with j := d.1.j - 1, y := x } ((stX_blk s2.blk 11 x).trans rfl) rfl
  have R2 := (HR1.out.kept k2 (.inl HN.out.2.1)).kept k3 (by show w.heap.size ≠ B; omega)
  obtain ⟨W3, hW3⟩ : ∃ W3, stX w2 B 11 x = W3 := ⟨_, rfl⟩
  rw [hW3] at k3 s3 R2
  unfold stX at hW3
  have CA := ask_any s3.1.drew 5 d.1.pv x
  have e8 : W3.cell? ⟨B, 11, none⟩ = some (.int .i64 x.1) := s3.1.cell (j := 11) rfl
  have e9 : W3.cell? ⟨B, 12, none⟩ = some (.int .i64 x.2.1) := s3.1.cell (j := 12) rfl
  have e10 : W3.cell? ⟨B, 13, none⟩ = some (.string x.2.2) := s3.1.cell (j := 13) rfl
  have e14 : W3.cell? ⟨B, 14, none⟩ = some (.int .i64 d.1.pv.1) := s3.1.cell (j := 14) rfl
  have e15 : W3.cell? ⟨B, 15, none⟩ = some (.int .i64 d.1.pv.2.1) := s3.1.cell (j := 15) rfl
  have e16 : W3.cell? ⟨B, 16, none⟩ = some (.string d.1.pv.2.2) := s3.1.cell (j := 16) rfl
  have HK3 : Hid (Keep No w W3) := (HK.out.trans (k2.sub (fun g q => .inl (HN.out.1 g q)))).trans (k3.sub (fun g q e => HNo.out.2 (e ▸ q)))
  have HR3 : Hid (R8 W3 w.heap.size (nil, nil, false, 0)) := R2
  have HF : Hid (∀ w4, Keep N2 W3.drew w4 → So N2 w4 B wv T A b a S hb (c + 1) (fallR d).1 → R8 w4 w.heap.size (nil, nil, false, 0) ∧ R8 (set8 w4 w.heap.size (fallR d).2) w.heap.size (fallR d).2 ∧ So No (set8 w4 w.heap.size (fallR d).2) B wv T A b a S hb (c + 1) (fallR d).1 ∧ Keep No w (set8 w4 w.heap.size (fallR d).2)) := fun w4 k4 s4 => by
    have K4 : Keep N2 W3 w4 := ((Keep.refl N2 W3).drew).trans k4
    have r4 := HR3.out.kept K4 HN.out.2.1
    refine ⟨r4, r4.set _, s4.out HN.out.1 ((Keep.refl _ w4).set8 (fun q => q HN.out.2.1) _), ?_⟩
    exact (HK3.out.trans (K4.sub HN.out.1)).set8 (fun q => by have := HNo.out.1 _ q; omega) _
  have hT : (fallR d).2 = askT d.1.pv x := by
    unfold fallR
    simp only [HX.out]
    rfl
  have hD : (fallR d).1 = askD ({ d.1 with j := d.1.j - 1, y := x }, (rdD ({ d.1 with j := d.1.j - 1 }, d.2) (d.1.j - 1)).2) 5 := by
    unfold fallR
    simp only [HX.out]
    rfl
  rw [← hD] at CA
  unfold vv vl at CA
  clear hD s2 s3 k2 k3 R2 CR HR1 HR3 HK HK3 a6 a6' f0 HX
  go_wp2_with fail
  refine wp_tail 9 (by kernel_rfl) (by kernel_rfl) ?_
  simp only [List.take_succ_cons, List.take_zero, List.drop_succ_cons, List.drop_zero]
  repeat still_step
  refine wpStill_nil ?_
  go_wp2_with fail
  refine CA.mono ?_
  rintro e w4 ⟨rfl, s4, k4⟩
  obtain ⟨r4, r5, s5, k5⟩ := HF.out w4 k4 s4
  rw [hT] at r5 s5 k5
  have HZ : Hid (_ ∧ _ ∧ _) := ⟨r5, s5, k5⟩
  obtain ⟨W5, hW5⟩ : ∃ W5, set8 w4 w.heap.size (askT d.1.pv x) = W5 := ⟨_, rfl⟩
  rw [hW5] at HZ
  unfold set8 askT at hW5
  unfold tolV askT
  have n0 : w4.cell? ⟨w.heap.size, 0, none⟩ = some (.int .i64 0) := r4.cell (j := 0) rfl
  have n1 : w4.cell? ⟨w.heap.size, 1, none⟩ = some (.int .i64 0) := r4.cell (j := 1) rfl
  have n2 : w4.cell? ⟨w.heap.size, 2, none⟩ = some (.string ⟨#[]⟩) := r4.cell (j := 2) rfl
  have n3 : w4.cell? ⟨w.heap.size, 3, none⟩ = some (.int .i64 0) := r4.cell (j := 3) rfl
  have n4 : w4.cell? ⟨w.heap.size, 4, none⟩ = some (.int .i64 0) := r4.cell (j := 4) rfl
  have n5 : w4.cell? ⟨w.heap.size, 5, none⟩ = some (.string ⟨#[]⟩) := r4.cell (j := 5) rfl
  have n6 : w4.cell? ⟨w.heap.size, 6, none⟩ = some (.bool false) := r4.cell (j := 6) rfl
  have n7 : w4.cell? ⟨w.heap.size, 7, none⟩ = some (.int .i64 0) := r4.cell (j := 7) rfl
  have nf := fun j => r4.free j
  clear r4 r5 s5 k5 s4 k4 HF CA e8 e9 e10 e14 e15 e16
  go_wp2
  obtain ⟨q1, q2, q3⟩ := HZ.out
  have r0 : W5.cell? ⟨w.heap.size, 0, none⟩ = some (.int .i64 d.1.pv.1) := q1.cell (j := 0) rfl
  have r1 : W5.cell? ⟨w.heap.size, 1, none⟩ = some (.int .i64 d.1.pv.2.1) := q1.cell (j := 1) rfl
  have r2 : W5.cell? ⟨w.heap.size, 2, none⟩ = some (.string d.1.pv.2.2) := q1.cell (j := 2) rfl
  have r3 : W5.cell? ⟨w.heap.size, 3, none⟩ = some (.int .i64 x.1) := q1.cell (j := 3) rfl
  have r4 : W5.cell? ⟨w.heap.size, 4, none⟩ = some (.int .i64 x.2.1) := q1.cell (j := 4) rfl
  have r5 : W5.cell? ⟨w.heap.size, 5, none⟩ = some (.string x.2.2) := q1.cell (j := 5) rfl
  have r6 : W5.cell? ⟨w.heap.size, 6, none⟩ = some (.bool true) := q1.cell (j := 6) rfl
  have r7 : W5.cell? ⟨w.heap.size, 7, none⟩ = some (.int .i64 0) := q1.cell (j := 7) rfl
  exact bodyPost_ret (v := tolV (askT d.1.pv x)) (by simp [results, Tryz.results103, go_sem, r0, r1, r2, r3, r4, r5, r6, r7, tolV, askT]) rfl ⟨by rw [hT], q2, q3⟩
end Go.Proofs.YtkmopcanaalemabGreat

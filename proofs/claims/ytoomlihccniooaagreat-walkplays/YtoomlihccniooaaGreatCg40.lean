/- The pure part of a heap, on: which block is whose; what a table holds of it. -/
import Derived.Test.YtoomlihccniooaaGreatCg28
import Derived.Test.YtoomlihccniooaaGreatCg18
import Derived.ProofKit
import Derived.OpenShut
import Derived.ChangeSlices
import Derived.ChangeOld
import Derived.SizedLaws
import Derived.Deep.Slices
import Derived.Deep.Fields
import Derived.Deep.Strs
import Derived.Test.YtoomlihccniooaaGreatCg16
import Derived.Test.YtoomlihccniooaaGreatCg30
namespace Go.Proofs.YtoomlihccniooaaGreat
open Go.RowKit

/-- The block id is taken and has n cells; or there is none, for no cells. -/
def Blk (s : H.St) (id n : Int) : Prop := (n = 0 ∧ id = 0) ∨ (1 ≤ n ∧ ∃ k : Nat, id = (k : Int) + 1 ∧ s.bl[k]? = some (n, true))
theorem setT_at {l : List (Int × Bool)} {k : Nat} {n : Int} {b : Bool} (h : l[k]? = some (n, b)) (t : Bool) (j : Nat) : (H.setT l k t)[j]? = if j = k then some (n, t) else l[j]? := by
  have hk : k < l.length := (List.getElem?_eq_some_iff.1 h).1
  have e : l.getD k (0, false) = (n, b) := by rw [List.getD, h]; rfl
  unfold H.setT
  rw [e, List.getElem?_set]
  by_cases q : k = j
  · rw [if_pos q, if_pos hk, if_pos q.symm]
  · rw [if_neg q, if_neg (fun e => q e.symm)]
theorem blk_take {sp : Int} {s : H.St} {n : Int} (h : H.Inv sp s) (he : H.takeE s n = 0) :
    Blk (H.takeSt s n) (H.takeId s n) n ∧ (H.takeSt s n).live = s.live + n ∧ (H.takeSt s n).lim = s.lim ∧ ∀ id m, Blk s id m → Blk (H.takeSt s n) id m ∧ (id = H.takeId s n → id = 0) := by
  have h0 : ¬ n < 0 := fun q => by unfold H.takeE at he; rw [if_pos q] at he; cases he
  have h1 : ¬ s.lim - s.live < n := fun q => by unfold H.takeE at he; rw [if_neg h0, if_pos q] at he; cases he
  by_cases hz : n = 0
  · have e1 : H.takeSt s n = s := by unfold H.takeSt; rw [if_neg h0, if_neg h1, if_pos hz]
    have e2 : H.takeId s n = 0 := by unfold H.takeId; rw [if_neg h0, if_neg h1, if_pos hz]
    rw [e1, e2]
    exact ⟨.inl ⟨hz, rfl⟩, by omega, rfl, fun id m q => ⟨q, fun e => e⟩⟩
  · rcases List.eq_nil_or_concat (s.R n) with hR | ⟨zs, x, hR⟩
    · obtain ⟨e1, e2, _⟩ := H.take_new (s := s) (n := n) (by omega) (by omega) hR
      rw [e1, e2]
      refine ⟨.inr ⟨by omega, s.bl.length, rfl, by simp⟩, rfl, rfl, fun id m q => ?_⟩
      rcases q with ⟨q1, q2⟩ | ⟨q1, k, q2, q3⟩
      · exact ⟨.inl ⟨q1, q2⟩, fun e => by omega⟩
      · have hk : k < s.bl.length := (List.getElem?_eq_some_iff.1 q3).1
        exact ⟨.inr ⟨q1, k, q2, by show (s.bl ++ [(n, true)])[k]? = _; rw [List.getElem?_append_left hk]; exact q3⟩, fun e => by omega⟩
    · rw [List.concat_eq_append] at hR
      obtain ⟨k, rfl, hk, hb⟩ := h.ids n x (by rw [hR]; simp)
      obtain ⟨e1, e2, _⟩ := H.take_old (s := s) (n := n) (by omega) (by omega) hR
      have hb' : s.bl[k]? = some (n, false) := by rw [List.getElem?_eq_getElem hk, hb]
      rw [e1, e2]
      refine ⟨.inr ⟨by omega, k, rfl, by show (H.setT s.bl k true)[k]? = _; rw [setT_at hb', if_pos rfl]⟩, rfl, rfl, fun id m q => ?_⟩
      rcases q with ⟨q1, q2⟩ | ⟨q1, k', q2, q3⟩
      · exact ⟨.inl ⟨q1, q2⟩, fun e => by omega⟩
      · have hne : k' ≠ k := fun e => by rw [e, hb'] at q3; cases q3
        exact ⟨.inr ⟨q1, k', q2, by show (H.setT s.bl k true)[k']? = _; rw [setT_at hb', if_neg hne]; exact q3⟩, fun e => by omega⟩
theorem blk_give {s : H.St} {id n : Int} (h : Blk s id n) : (H.giveSt s id).live = s.live - n ∧ (H.giveSt s id).lim = s.lim ∧ ∀ id' m, Blk s id' m → (id' = id → id' = 0) → Blk (H.giveSt s id) id' m := by
  rcases h with ⟨rfl, rfl⟩ | ⟨h1, k, rfl, hb⟩
  · rw [(H.give_zero s).2]
    exact ⟨by omega, rfl, fun _ _ q _ => q⟩
  · have hk : k < s.bl.length := (List.getElem?_eq_some_iff.1 hb).1
    have hb2 : s.bl[k]'hk = (n, true) := (List.getElem?_eq_some_iff.1 hb).2
    rw [(H.give_at hk (by rw [hb2])).2]
    refine ⟨by show s.live - (s.bl[k]'hk).1 = _; rw [hb2], rfl, fun id' m q hne => ?_⟩
    rcases q with q | ⟨q1, k', q2, q3⟩
    · exact .inl q
    · have hne' : k' ≠ k := fun e => by have := hne (by omega); omega
      exact .inr ⟨q1, k', q2, by show (H.setT s.bl k false)[k']? = _; rw [setT_at hb, if_neg hne']; exact q3⟩

theorem flA_nz (old : Pa) (s : Nat) (p : Pa) (m : Nat) : (flA old s p m).n = p.n ∧ (flA old s p m).z = p.z := by
  induction m with
  | zero => exact ⟨rfl, rfl⟩
  | succ m ih => rw [flA, (stp_nz _ _ _).1, (stp_nz _ _ _).2]; exact ih
theorem flH_nz (old p : Pa) (m : Nat) : (flH old p m).n = p.n ∧ (flH old p m).z = p.z := by
  induction m with
  | zero => exact ⟨rfl, rfl⟩
  | succ m ih => rw [flH, (stp_nz _ _ _).1, (stp_nz _ _ _).2]; exact ih
theorem fill_nz (old p : Pa) : (fill old p).n = p.n ∧ (fill old p).z = p.z := by
  unfold fill
  rw [(flH_nz _ _ _).1, (flH_nz _ _ _).2, (flA_nz _ _ _ _).1, (flA_nz _ _ _ _).2]
  exact ⟨rfl, rfl⟩

/-- What a table holds of the heap s: its two parts' blocks, and L cells beside them are taken. -/
structure TB (t : TS) (s : H.St) (L : Int) : Prop where
  b1 : Blk s t.sb (t.p.n : Nat)
  b2 : Blk s t.nb (3 * (t.p.z : Nat))
  ne : t.sb = t.nb → t.sb = 0
  live : s.live = L + (t.p.n : Nat) + 3 * (t.p.z : Nat)
theorem tp_cases (s : H.St) (A Z : Int) : (H.takeE s A ≠ 0 ∧ tpE s A Z = H.takeE s A ∧ tpS s A Z = s) ∨
    (H.takeE s A = 0 ∧ H.takeE (H.takeSt s A) (3 * Z) ≠ 0 ∧ tpE s A Z = H.takeE (H.takeSt s A) (3 * Z) ∧ tpS s A Z = H.giveSt (H.takeSt s A) (H.takeId s A)) ∨
    (H.takeE s A = 0 ∧ H.takeE (H.takeSt s A) (3 * Z) = 0 ∧ tpE s A Z = 0 ∧ tpS s A Z = H.takeSt (H.takeSt s A) (3 * Z)) := by
  unfold tpE tpS
  by_cases h : H.takeE s A = 0
  · right
    rw [if_neg (fun q => q h), if_neg (fun q => q h)]
    by_cases h2 : H.takeE (H.takeSt s A) (3 * Z) = 0
    · right; rw [if_neg (fun q => q h2)]; exact ⟨h, h2, h2, rfl⟩
    · left; rw [if_pos h2]; exact ⟨h, h2, rfl, rfl⟩
  · left; rw [if_pos h, if_pos h]; exact ⟨h, rfl, rfl⟩
theorem TB.reh {t : TS} {s : H.St} {L : Int} (h : TB t s L) (iv : H.Inv 0 s) (k : V) : TB (Proofs.YtoomlihccniooaaGreat.reh t s k).1 (Proofs.YtoomlihccniooaaGreat.reh t s k).2.1 L ∧ (Proofs.YtoomlihccniooaaGreat.reh t s k).2.1.lim = s.lim := by
  unfold Proofs.YtoomlihccniooaaGreat.reh
  by_cases he : rsE t.p k = 0
  · rw [if_neg (fun q => q he)]
    generalize rsA t.p k = A
    generalize rsZ t.p k = Z
    rcases tp_cases s (A : Nat) (Z : Nat) with ⟨q1, q2, q3⟩ | ⟨q1, q2, q3, q4⟩ | ⟨q1, q2, q3, q4⟩
    · rw [if_pos (by rw [q2]; exact q1), q3]
      exact ⟨h, rfl⟩
    · rw [if_pos (by rw [q3]; exact q2), q4]
      obtain ⟨a1, a2, a3, a4⟩ := blk_take iv q1
      obtain ⟨g1, g2, g3⟩ := blk_give a1
      have k1 := a4 _ _ h.b1
      have k2 := a4 _ _ h.b2
      exact ⟨⟨g3 _ _ k1.1 k1.2, g3 _ _ k2.1 k2.2, h.ne, by show (H.giveSt (H.takeSt s (A : Nat)) (H.takeId s (A : Nat))).live = L + (t.p.n : Nat) + 3 * (t.p.z : Nat); rw [g1, a2, h.live]; omega⟩, by show (H.giveSt (H.takeSt s (A : Nat)) (H.takeId s (A : Nat))).lim = s.lim; rw [g2, a3]⟩
    · rw [if_neg (fun q => q q3), q4]
      obtain ⟨a1, a2, a3, a4⟩ := blk_take iv q1
      obtain ⟨c1, c2, c3, c4⟩ := blk_take (iv.take _) q2
      have k1 := a4 _ _ h.b1
      have k2 := a4 _ _ h.b2
      have m1 := c4 _ _ k1.1
      have m2 := c4 _ _ k2.1
      have m3 := c4 _ _ a1
      obtain ⟨g1, g2, g3⟩ := blk_give m1.1
      have n2 := g3 _ _ m2.1 (fun e => by have := h.ne e.symm; omega)
      have n3 := g3 _ _ m3.1 (fun e => by have := k1.2 e.symm; omega)
      have n4 := g3 _ _ c1 (fun e => by have := m1.2 e.symm; omega)
      obtain ⟨f1, f2, f3⟩ := blk_give n2
      have p3 := f3 _ _ n3 (fun e => by have := k2.2 e.symm; omega)
      have p4 := f3 _ _ n4 (fun e => by have := m2.2 e.symm; omega)
      obtain ⟨z1, z2⟩ := fill_nz t.p (fresh A Z)
      have z1' : (fill t.p (fresh A Z)).n = A := z1
      have z2' : (fill t.p (fresh A Z)).z = Z := z2
      refine ⟨⟨?_, ?_, fun e => m3.2 e, ?_⟩, by rw [f2, g2, c3, a3]⟩
      · show Blk _ _ ((fill t.p (fresh A Z)).n : Nat); rw [z1']; exact p3
      · show Blk _ _ (3 * ((fill t.p (fresh A Z)).z : Nat)); rw [z2']; exact p4
      · show _ = L + ((fill t.p (fresh A Z)).n : Nat) + 3 * ((fill t.p (fresh A Z)).z : Nat)
        rw [z1', z2', f1, g1, c2, a2, h.live]; omega
  · rw [if_pos he]; exact ⟨h, rfl⟩
theorem TB.one {t : TS} {s : H.St} {L : Int} (h : TB t s L) (k v : V) (x : Int) : TB { t with p := (pset t.p k v).1, pr := x } s L := by
  obtain ⟨z1, z2⟩ := pset_nz t.p k v
  exact ⟨by show Blk s t.sb ((pset t.p k v).1.n : Nat); rw [z1]; exact h.b1, by show Blk s t.nb (3 * ((pset t.p k v).1.z : Nat)); rw [z2]; exact h.b2, h.ne, by show _ = L + ((pset t.p k v).1.n : Nat) + 3 * ((pset t.p k v).1.z : Nat); rw [z1, z2]; exact h.live⟩
theorem TB.set {t : TS} {s : H.St} {L : Int} (h : TB t s L) (iv : H.Inv 0 s) (k v : V) : TB (tset t s k v).1 (tset t s k v).2.1 L ∧ (tset t s k v).2.1.lim = s.lim := by
  unfold tset
  split
  · exact ⟨h, rfl⟩
  · split
    · exact ⟨h, rfl⟩
    · split
      · exact ⟨h.one k v _, rfl⟩
      · obtain ⟨r1, r2⟩ := (show TB (Proofs.YtoomlihccniooaaGreat.one t k v) s L from h.one k v _).reh iv k
        split
        · exact ⟨r1, r2⟩
        · exact ⟨r1.one k v _, r2⟩
end Go.Proofs.YtoomlihccniooaaGreat

/- What a new table holds of its heap. -/
namespace Go.Proofs.YtoomlihccniooaaGreat
open Go.RowKit
theorem Okn.tb {s : H.St} {x y : Int} {n z : Nat} (o : Okn s x y n z) (iv : H.Inv 0 s) {t : TS} (et : t = newT n z t.sb t.nb) (e1 : t.sb = H.takeId (H.takeSt s 4) (n : Nat)) (e2 : t.nb = H.takeId (H.takeSt (H.takeSt s 4) (n : Nat)) (3 * (z : Nat))) : TB t (nS s x y) (s.live + 4) := by
  obtain ⟨m, rfl, hm, hz⟩ := o.hy
  have hn : t.p.n = n := by rw [et]; rfl
  have hzz : t.p.z = z := by rw [et]; rfl
  have hin : inP x ∧ inP (m : Int) := by
    rw [o.ex]
    exact ⟨⟨by omega, by have := o.hn; omega⟩, ⟨by omega, by omega⟩⟩
  have eS : nS s x (m : Nat) = H.takeSt (H.takeSt (H.takeSt s 4) (n : Nat)) (3 * (z : Nat)) := by
    unfold nS
    rw [if_neg (fun q => q hin), if_neg (fun q => q o.e1), hz, o.ex]
    obtain ⟨q1, q2⟩ | ⟨q1, q2, q3, q4⟩ | ⟨q1, q2, q3, q4⟩ := tp_cases (H.takeSt s 4) (n : Nat) (z : Nat)
    · exact absurd o.e2 q1
    · exact absurd o.e3 q2
    · rw [if_neg (fun q => q q3), q4]
  obtain ⟨a1, a2, a3, a4⟩ := blk_take iv o.e1
  obtain ⟨c1, c2, c3, c4⟩ := blk_take (iv.take 4) o.e2
  obtain ⟨d1, d2, d3, d4⟩ := blk_take ((iv.take 4).take (n : Nat)) o.e3
  have m1 := d4 _ _ c1
  rw [eS]
  refine ⟨by rw [hn, e1]; exact m1.1, by rw [hzz, e2]; exact d1, fun e => ?_, by rw [d2, c2, a2, hn, hzz]⟩
  rw [e1] at e ⊢
  rw [e2] at e
  exact m1.2 e
end Go.Proofs.YtoomlihccniooaaGreat

/- How a case that came in is read: two sizes, a list of operations. -/
namespace Go.Proofs.YtoomlihccniooaaGreat
open Go.RowKit Go.ChangeShapes Go.WideShapes Go.ChangeAt Go.Deep

abbrev cw (x y : Int) (v : Value) : Value := .agg #[.int .i64 x, .int .i64 y, v]
/-- An operation's eight cells. -/
def oc (q : Int × V × V × Int) : Nat → Value
  | 0 => .int .i64 q.1
  | 1 => .int .i64 q.2.1.1
  | 2 => .int .i64 q.2.1.2.1
  | 3 => .string q.2.1.2.2
  | 4 => .int .i64 q.2.2.1.1
  | 5 => .int .i64 q.2.2.1.2.1
  | 6 => .string q.2.2.1.2.2
  | _ => .int .i64 q.2.2.2
theorem lt8 {j : Nat} (h : j < 8) : j = 0 ∨ j = 1 ∨ j = 2 ∨ j = 3 ∨ j = 4 ∨ j = 5 ∨ j = 6 ∨ j = 7 := by omega
/-- The list of L operations that v is, all below block N. -/
def Ops (N : Nat) (w : World) (a : Option Addr) (L : Nat) (Q : Nat → Int × V × V × Int) : Prop :=
  (∀ i, i < L → Rng (Q i).2.1 ∧ -9223372036854775808 ≤ (Q i).2.2.2 ∧ (Q i).2.2.2 ≤ 9223372036854775807) ∧ (0 < L → ∃ b off, a = some ⟨b, off, none⟩ ∧ b < N ∧ ∀ i, i < L → ∀ j, j < 8 → w.cell? ⟨b, off + i * 8 + j, none⟩ = some (oc (Q i) j))
theorem Ops.below {N : Nat} {w w' : World} {a : Option Addr} {L : Nat} {Q : Nat → Int × V × V × Int} (h : Ops N w a L Q) (hb : Below N w w') : Ops N w' a L Q := by
  refine ⟨h.1, fun hl => ?_⟩
  obtain ⟨b, off, rfl, hg, hx⟩ := h.2 hl
  exact ⟨b, off, rfl, hg, fun i hi j hj => by rw [hb.cell (by exact hg)]; exact hx i hi j hj⟩
theorem Ops.cut {N : Nat} {w : World} {a : Option Addr} {L m : Nat} {Q : Nat → Int × V × V × Int} (h : Ops N w a L Q) (hm : m ≤ L) : Ops N w a m Q := by
  refine ⟨fun i hi => h.1 i (by omega), fun hl => ?_⟩
  obtain ⟨b, off, rfl, hg, hx⟩ := h.2 (by omega)
  exact ⟨b, off, rfl, hg, fun i hi j hj => hx i (by omega) j hj⟩
theorem Ops.at {N : Nat} {w : World} {a : Option Addr} {L : Nat} {Q : Nat → Int × V × V × Int} (h : Ops N w a L Q) {i : Nat} (hi : i < L) : ∃ b off, a = some ⟨b, off, none⟩ ∧ b < N ∧
    w.cell? ⟨b, off + i * 8, none⟩ = some (.int .i64 (Q i).1) ∧ w.cell? ⟨b, off + i * 8 + 1, none⟩ = some (.int .i64 (Q i).2.1.1) ∧ w.cell? ⟨b, off + i * 8 + 2, none⟩ = some (.int .i64 (Q i).2.1.2.1) ∧ w.cell? ⟨b, off + i * 8 + 3, none⟩ = some (.string (Q i).2.1.2.2) ∧
    w.cell? ⟨b, off + i * 8 + 4, none⟩ = some (.int .i64 (Q i).2.2.1.1) ∧ w.cell? ⟨b, off + i * 8 + 5, none⟩ = some (.int .i64 (Q i).2.2.1.2.1) ∧ w.cell? ⟨b, off + i * 8 + 6, none⟩ = some (.string (Q i).2.2.1.2.2) ∧ w.cell? ⟨b, off + i * 8 + 7, none⟩ = some (.int .i64 (Q i).2.2.2) := by
  obtain ⟨b, off, rfl, hg, hx⟩ := h.2 (by omega)
  exact ⟨b, off, rfl, hg, hx i hi 0 (by omega), hx i hi 1 (by omega), hx i hi 2 (by omega), hx i hi 3 (by omega), hx i hi 4 (by omega), hx i hi 5 (by omega), hx i hi 6 (by omega), hx i hi 7 (by omega)⟩

theorem cells3 : Tryz.prog.cellsOf 3 = 1 := by kernel_rfl
theorem cells9 : Tryz.prog.cellsOf 9 = 1 := by kernel_rfl
theorem cells22 : Tryz.prog.cellsOf 22 = 1 := by kernel_rfl
theorem cells31 : Tryz.prog.cellsOf 31 = 3 := by kernel_rfl
theorem cells33 : Tryz.prog.cellsOf 33 = 8 := by kernel_rfl
theorem cells24 : Tryz.prog.cellsOf 24 = 3 := by kernel_rfl
theorem laidOut : laidOutB Tryz.prog = true := by kernel_rfl
theorem trod_struct4 {H : Type} {enc : TypeId × Value → H} {P : Program} {w : World} {base : Nat} {spare : Nat → Bool} {held : Bool} {t : TypeId} {f0 f1 f2 f3 : Field} {fuel : Nat} {cs : List Value} {x : DataW H × List MemPlace} (ht : P.underlying t = some (.struct #[f0, f1, f2, f3])) (h : DataW.trod enc P w base spare held fuel t cs = some x) :
    ∃ y0 y1 y2 y3 n, x = (.agg [y0.1, y1.1, y2.1, y3.1], y0.2 ++ (y1.2 ++ (y2.2 ++ y3.2))) ∧ cs.length = P.cellsOf t ∧ DataW.trod enc P w base spare held n f0.type ((cs.drop f0.offset).take (P.cellsOf f0.type)) = some y0 ∧
      DataW.trod enc P w base spare held n f1.type ((cs.drop f1.offset).take (P.cellsOf f1.type)) = some y1 ∧ DataW.trod enc P w base spare held n f2.type ((cs.drop f2.offset).take (P.cellsOf f2.type)) = some y2 ∧ DataW.trod enc P w base spare held n f3.type ((cs.drop f3.offset).take (P.cellsOf f3.type)) = some y3 := by
  obtain ⟨xs, n, _, rfl, hl, hlen, hf⟩ := DataW.trod_struct ht h
  match xs, hlen with
  | [y0, y1, y2, y3], _ => exact ⟨y0, y1, y2, y3, n, by simp, hl, by simpa using hf 0 f0 rfl, by simpa using hf 1 f1 rfl, by simpa using hf 2 f2 rfl, by simpa using hf 3 f3 rfl⟩

theorem elem_val {H : Type} {enc : TypeId × Value → H} {W : World} {base : Nat} {sp : Nat → Bool} {held : Bool} {fuel : Nat} {cs : List Value} {x : DataW H × List MemPlace}
    (hlen : cs.length = 3) (hf : DataW.trod enc Tryz.prog W base sp held fuel 31 cs = some x) :
    ∃ (k n : Int) (s : ByteArray), cs = [.int .i64 k, .int .i64 n, .string s] ∧ (Lit.int .i64 n).wf = true := by
  obtain ⟨c0, c1, c2, rfl⟩ : ∃ c0 c1 c2, cs = [c0, c1, c2] := by
    match cs, hlen with
    | [c0, c1, c2], _ => exact ⟨c0, c1, c2, rfl⟩
  obtain ⟨y0, y1, y2, m, hx, _, t0, t1, t2⟩ := trod_struct3 Tryz.underlying31 hf
  obtain ⟨k, e0, f0, g0⟩ := DataW.trod_int Tryz.underlying3 t0
  obtain ⟨n, e1, f1, g1⟩ := DataW.trod_int Tryz.underlying3 t1
  obtain ⟨s, e2, f2, g2⟩ := DataW.trod_string Tryz.underlying9 t2
  simp [cells3, cells9] at e0 e1 e2
  subst e0 e1 e2
  exact ⟨k, n, s, rfl, g1⟩
set_option maxRecDepth 100000 in
theorem elem_op {H : Type} {enc : TypeId × Value → H} {W : World} {base : Nat} {sp : Nat → Bool} {held : Bool} {fuel : Nat} {cs : List Value} {x : DataW H × List MemPlace}
    (hlen : cs.length = 8) (hf : DataW.trod enc Tryz.prog W base sp held fuel 33 cs = some x) : ∃ q : Int × V × V × Int, (∀ j, j < 8 → cs[j]? = some (oc q j)) ∧ Rng q.2.1 ∧ -9223372036854775808 ≤ q.2.2.2 ∧ q.2.2.2 ≤ 9223372036854775807 := by
  obtain ⟨c0, c1, c2, c3, c4, c5, c6, c7, rfl⟩ : ∃ c0 c1 c2 c3 c4 c5 c6 c7, cs = [c0, c1, c2, c3, c4, c5, c6, c7] := by
    match cs, hlen with
    | [c0, c1, c2, c3, c4, c5, c6, c7], _ => exact ⟨c0, c1, c2, c3, c4, c5, c6, c7, rfl⟩
  obtain ⟨y0, y1, y2, y3, m, hx, _, t0, t1, t2, t3⟩ := trod_struct4 Tryz.underlying33 hf
  obtain ⟨k, e0, f0, g0⟩ := DataW.trod_int Tryz.underlying3 t0
  obtain ⟨nn, e3, f3, g3⟩ := DataW.trod_int Tryz.underlying3 t3
  simp [cells3] at e0 e3
  subst e0 e3
  simp only [cells31] at t1 t2
  obtain ⟨a1, a2, a3, e1, g1⟩ := elem_val (by simp) t1
  obtain ⟨b1, b2, b3, e2, g2⟩ := elem_val (by simp) t2
  simp at e1 e2
  obtain ⟨rfl, rfl, rfl⟩ := e1
  obtain ⟨rfl, rfl, rfl⟩ := e2
  refine ⟨(k, (a1, a2, a3), (b1, b2, b3), nn), fun j hj => ?_, ?_, ?_⟩
  · rcases lt8 hj with rfl | rfl | rfl | rfl | rfl | rfl | rfl | rfl <;> rfl
  · have := bounds_i64 g1
    exact ⟨this.1, this.2⟩
  · exact bounds_i64 g3
set_option maxRecDepth 100000 in
theorem open_case {H : Type} {enc : TypeId × Value → H} {W : World} {base b0 : Nat} {held : Bool} {r : Reach} {v : Value} {d : DataW H} {ps : List MemPlace}
    (hval : Value.okWide Tryz.prog W r b0 24 v) (hd : DataW.Trod enc Tryz.prog W base (fun _ => true) held 24 v d ps) :
    ∃ (x y : Int) (a : Option Addr) (L cap : Nat) (Q : Nat → Int × V × V × Int), v = cw x y (.slice a L cap) ∧ L ≤ cap ∧ Ops W.heap.size W a L Q := by
  obtain ⟨cs, rfl, h2⟩ := okWide_struct Tryz.underlying24 hval
  rw [cells24] at h2
  obtain ⟨ll⟩ := cs
  obtain ⟨c0, c1, c2, rfl⟩ : ∃ c0 c1 c2, ll = [c0, c1, c2] := by
    match ll, h2 with
    | [c0, c1, c2], _ => exact ⟨c0, c1, c2, rfl⟩
  obtain ⟨fuel, hf⟩ := hd
  obtain ⟨y0, y1, y2, m, hx, _, t0, t1, t3⟩ := trod_struct3 Tryz.underlying24 hf
  obtain ⟨x, e1, f1, g1⟩ := DataW.trod_int Tryz.underlying3 t0
  obtain ⟨y, e2, f2, g2⟩ := DataW.trod_int Tryz.underlying3 t1
  simp [Value.cells, cells3] at e1 e2
  subst e1 e2
  rw [cells22] at t3
  rcases open_slice Tryz.underlying22 t3 with ⟨h0, _⟩ | ⟨a, len, cap, m, n, D, Pl, h0, hb, hl, hm, hmm, hx, he⟩
  · simp [Value.cells] at h0
    subst h0
    exact ⟨x, y, none, 0, 0, fun _ => (0, nil, nil, 0), rfl, Nat.le_refl _, fun i hi => absurd hi (Nat.not_lt_zero _), fun h => absurd h (Nat.lt_irrefl _)⟩
  · simp only [if_true] at hmm
    subst hmm
    simp [Value.cells] at h0
    subst h0
    have each : ∀ i, i < m → ∃ q : Int × V × V × Int, (∀ j, j < 8 → W.cell? (a.add (i * 8 + j)) = some (oc q j)) ∧ Rng q.2.1 ∧ -9223372036854775808 ≤ q.2.2.2 ∧ q.2.2.2 ≤ 9223372036854775807 := by
      intro i hi
      obtain ⟨cs', h1, h2⟩ := he i hi
      rw [cells33] at h1
      obtain ⟨_, hlen, hcell⟩ := World.cells?_some h1
      obtain ⟨q, hq, hr⟩ := elem_op hlen h2
      refine ⟨q, fun j hj => ?_, hr⟩
      have := hcell j (by omega)
      rw [Addr.add_add] at this
      rw [this]
      exact hq j hj
    obtain ⟨Q, hQ⟩ : ∃ Q : Nat → Int × V × V × Int, ∀ i, i < m → (∀ j, j < 8 → W.cell? (a.add (i * 8 + j)) = some (oc (Q i) j)) ∧ Rng (Q i).2.1 ∧ -9223372036854775808 ≤ (Q i).2.2.2 ∧ (Q i).2.2.2 ≤ 9223372036854775807 :=
      ⟨fun i => if h : i < m then (each i h).choose else (0, nil, nil, 0), fun i hi => by
        simp only [dif_pos hi]
        exact (each i hi).choose_spec⟩
    refine ⟨x, y, some a, len, m, Q, rfl, hl, fun i hi => (hQ i (by omega)).2, fun h0 => ?_⟩
    have hc0 := (hQ 0 (by omega)).1 0 (by omega)
    have ha : a.add (0 * 8 + 0) = a := rfl
    rw [ha] at hc0
    obtain ⟨b, off, spot⟩ := a
    have hs : spot = none := by
      cases spot with
      | none => rfl
      | some q => unfold World.cell? at hc0; split at hc0 <;> simp at hc0
    subst hs
    have hadd : ∀ i, (Addr.add ⟨b, off, none⟩ i) = ⟨b, off + i, none⟩ := fun i => by
      by_cases hj0 : i = 0
      · subst hj0; rfl
      · simp [Addr.add, hj0]
    refine ⟨b, off, rfl, World.block_lt_of_cell? W _ hc0, fun i hi j hj => ?_⟩
    have := (hQ i (by omega)).1 j hj
    rw [hadd, ← Nat.add_assoc] at this
    exact this
end Go.Proofs.YtoomlihccniooaaGreat

/- The pure part of a table, on: keys that follow one another, none of them small. -/
namespace Go.Proofs.YtoomlihccniooaaGreat
open Go.RowKit

/-- The census has no error where few keys are present. -/
theorem rsE_few {p : Pa} {k : V} (h : ∀ k', k' ∈ pres p ++ [k] → KOK k') (hn : (pres p ++ [k]).Nodup) (hl : (pres p ++ [k]).length ≤ 65536) : rsE p k = 0 := by
  rcases cens h hn with q | q
  · exfalso
    unfold rsE at q
    generalize pres p ++ [k] = l at *
    have hf := ints_fit h
    have hd := (C.dense_of (ints l) hf).n
    have hw := (C.wi_bound (ints l) (C.chA (C.cntL (ints l)) 17)).1
    have hc := ints_len l
    unfold C.szE at q
    rw [if_neg (by omega), if_neg (by simpa using ints_nd h hn)] at q
    have : ¬ (65536 < ((oth l : Nat) : Int) ∨ 65536 < ((oth l : Nat) : Int) + C.rest (ints l)) := by unfold C.rest; omega
    rw [if_neg this] at q
    cases q
  · exact q.1
theorem up2_le (n : Int) (h0 : 0 ≤ n) (h1 : n ≤ 1024) : C.up2 n ≤ 1024 := by
  unfold C.up2
  by_cases q : n = 0
  · rw [if_pos q]; omega
  · rw [if_neg q]
    obtain ⟨a, b, c⟩ := C.lgN_spec n (by omega) (by omega)
    have hl : C.lgN n ≤ 10 := by
      rcases b with b | b
      · omega
      · rcases Nat.lt_or_ge 10 (C.lgN n) with q | q
        · have := Nat.pow_le_pow_right (n := 2) (by omega) (show 10 ≤ C.lgN n - 1 by omega)
          omega
        · exact q
    unfold C.cl
    have h2 := Nat.pow_le_pow_right (n := 2) (by omega) hl
    have e : ((2 : Int) ^ C.lgN n) = ((2 ^ C.lgN n : Nat) : Int) := by simp
    rw [e]; omega

/-- j keys are in, b + 1 to b + j; none has a slot. -/
structure RW (b : Int) (j : Nat) (t : TS) (s : H.St) : Prop where
  n0 : t.p.n = 0
  tb : TB t s 4
  lim : s.lim = 400000
  zb : t.p.z ≤ 1024
  keys : ∀ i, i < t.p.z → t.p.g.K i = nil ∨ ∃ q : Nat, 1 ≤ q ∧ q ≤ j ∧ t.p.g.K i = kn (b + q)
  get : ∀ q : Nat, 1 ≤ q → q ≤ j → pget t.p (kn (b + q)) = kn q
theorem kn_inj {a b : Int} (h : kn a = kn b) : a = b := by simpa using h
theorem KOK_row {b : Int} {q : Nat} (h0 : 0 ≤ b) (h1 : b < 4611686018427387904) (hq : q ≤ 701) : KOK (kn (b + q)) := by
  refine ⟨by simp [inF, ByteArray.toList_eq], by simp, by simp; omega, by simp; omega⟩
theorem fm_kn (n : Int) : fm (kn n) = true := by simp [fm, inF, ByteArray.toList_eq]
theorem not_inA0 (k : V) : ¬ inA 0 k := fun h => by have := h.2.2; omega
theorem RW.pres_len {b : Int} {j : Nat} {t : TS} {s : H.St} (h : RW b j t s) (ti : TI t.p) : (pres t.p).length ≤ j ∧ ∀ k, k ∈ pres t.p → ∃ q : Nat, 1 ≤ q ∧ q ≤ j ∧ k = kn (b + q) := by
  have hm : ∀ k, k ∈ pres t.p → ∃ q : Nat, 1 ≤ q ∧ q ≤ j ∧ k = kn (b + q) := fun k hk => by
    rw [pres, h.n0, List.mem_append] at hk
    rcases hk with hk | hk
    · cases hk
    · obtain ⟨i, hi, hx, rfl⟩ := mem_kH.1 hk
      exact (h.keys i hi).resolve_left (ti.live hi hx).1
  refine ⟨?_, hm⟩
  have hnd : ((pres t.p).map fun k => (k.2.1 - b - 1).toNat).Nodup := by
    unfold List.Nodup
    rw [List.pairwise_map]
    refine List.Pairwise.imp_of_mem ?_ ti.pres_nd
    intro k k' hk hk' hne e
    obtain ⟨q, q1, q2, rfl⟩ := hm k hk
    obtain ⟨q', q1', q2', rfl⟩ := hm k' hk'
    have e' : (b + (q : Int) - b - 1).toNat = (b + (q' : Int) - b - 1).toNat := e
    exact hne (by rw [show q = q' by omega])
  have := nodup_len (z := j) hnd (fun x hx => by
    obtain ⟨k, hk, rfl⟩ := List.mem_map.1 hx
    obtain ⟨q, q1, q2, rfl⟩ := hm k hk
    show (b + (q : Int) - b - 1).toNat < j
    omega)
  simpa using this

theorem RW.step {b : Int} {j m : Nat} {t : TS} {s : H.St} (h : RW b j t s) (ti : TI t.p) (iv : H.Inv 0 s) (hj : j + 1 ≤ m) (hm : m ≤ 700) (hb : 2 * (m : Int) ≤ b) (hb2 : b < 4611686018427387904) :
    (tset t s (kn (b + (j + 1 : Nat))) (kn ((j + 1 : Nat)))).2.2 = 0 ∧ RW b (j + 1) (tset t s (kn (b + (j + 1 : Nat))) (kn (j + 1 : Nat))).1 (tset t s (kn (b + (j + 1 : Nat))) (kn (j + 1 : Nat))).2.1 := by
  have hk : KOK (kn (b + (j + 1 : Nat))) := KOK_row (by omega) hb2 (by omega)
  have hv := fm_kn ((j + 1 : Nat) : Int)
  have hr : Rng (kn (b + (j + 1 : Nat))) := ⟨hk.2.2.1, hk.2.2.2⟩
  have hv0 : (kn ((j + 1 : Nat) : Int)).1 ≠ 0 := by simp
  obtain ⟨htb, hlim⟩ := h.tb.set iv (kn (b + (j + 1 : Nat))) (kn (j + 1 : Nat))
  obtain ⟨mp1, mp2⟩ := tset_map (s := s) (k := kn (b + (j + 1 : Nat))) (v := kn (j + 1 : Nat)) ti hr
  obtain ⟨hpl, hpm⟩ := h.pres_len ti
  have hold : ∀ q : Nat, 1 ≤ q → q ≤ j → kn (b + q) ≠ kn (b + (j + 1 : Nat)) := fun q _ q2 e => by have := kn_inj e; omega
  -- what is left to show
  have key : (tset t s (kn (b + (j + 1 : Nat))) (kn (j + 1 : Nat))).2.2 = 0 ∧ (tset t s (kn (b + (j + 1 : Nat))) (kn (j + 1 : Nat))).1.p.n = 0 ∧ (tset t s (kn (b + (j + 1 : Nat))) (kn (j + 1 : Nat))).1.p.z ≤ 1024 ∧
      ∀ i, i < (tset t s (kn (b + (j + 1 : Nat))) (kn (j + 1 : Nat))).1.p.z → (tset t s (kn (b + (j + 1 : Nat))) (kn (j + 1 : Nat))).1.p.g.K i = nil ∨ ∃ q : Nat, 1 ≤ q ∧ q ≤ j + 1 ∧ (tset t s (kn (b + (j + 1 : Nat))) (kn (j + 1 : Nat))).1.p.g.K i = kn (b + q) := by
    clear mp1 mp2 htb hlim
    generalize hkk : kn (b + (j + 1 : Nat)) = k at *
    generalize kn ((j + 1 : Nat) : Int) = v at *
    have hA : ¬ inA t.p.n k := by rw [h.n0]; exact not_inA0 k
    have ep : pset t.p k v = ({ t.p with g := (put t.p.z t.p.g k v).1 }, (put t.p.z t.p.g k v).2.1, (put t.p.z t.p.g k v).2.2) := by unfold pset; rw [if_neg hA]
    unfold tset
    rw [if_neg (fun q => q ⟨hk.1, hv⟩), if_neg hk.2.1]
    by_cases he : (pset t.p k v).2.2 = 12
    · rw [if_neg (fun q => q he)]
      obtain ⟨_, _, _, hnew, hfull, hg, hp, ha⟩ := ti.full hk he
      have h1 : TI (pset t.p k v).1 := ti.set hr hv
      have hA1 : ¬ inA (pset t.p k v).1.n k := by rw [(pset_nz t.p k v).1]; exact hA
      have hnew1 : ∀ i, i < (pset t.p k v).1.z → (pset t.p k v).1.g.K i ≠ k := fun i hi e => by
        rw [(pset_nz t.p k v).2] at hi
        have he' : (put t.p.z t.p.g k v).2.2 = 12 := by rw [ep] at he; exact he
        have e2 := (put_12 ti.inv ti.rt hk he').2.2.2.2.1
        rw [ep] at e
        have e3 : (put t.p.z t.p.g k v).1.K i = k := e
        rw [e2] at e3
        exact hnew i hi e3
      have hop : (one t k v).p = (pset t.p k v).1 := rfl
      have hos : (one t k v).sb = t.sb ∧ (one t k v).nb = t.nb := ⟨rfl, rfl⟩
      rw [← hop] at ha h1 hA1 hnew1 hp
      generalize one t k v = u at *
      have hlen : (pres u.p ++ [k]).length ≤ j + 1 := by rw [hp]; simp; omega
      have e0 := rsE_few ha.ok ha.nd (by omega)
      obtain ⟨F, i1, i2, i3, i4, i5⟩ := h1.behind hk hv hv0 hA1 hnew1 ha e0
      have hmem : ∀ k', k' ∈ pres u.p ++ [k] → ∃ q : Nat, 1 ≤ q ∧ q ≤ j + 1 ∧ k' = kn (b + q) := fun k' hk' => by
        rw [hp] at hk'
        rcases List.mem_append.1 hk' with q | q
        · obtain ⟨r, r1, r2, r3⟩ := hpm k' q
          exact ⟨r, r1, by omega, r3⟩
        · exact ⟨j + 1, by omega, by omega, by rw [List.mem_singleton.1 q, hkk]⟩
      have hA0 : rsA u.p k = 0 := by
        by_cases q : rsA u.p k = 0
        · exact q
        · exfalso
          have hh := F.dense.half (by omega)
          have hw := C.wi_bound (ints (pres u.p ++ [k])) (rsA u.p k)
          have hc := ints_len (pres u.p ++ [k])
          have hpos : 0 < C.wi (ints (pres u.p ++ [k])) (rsA u.p k) := by omega
          unfold C.wi at hpos
          have hp2 : 0 < (ints (pres u.p ++ [k])).countP (fun x => decide (1 ≤ x ∧ x ≤ ((rsA u.p k : Nat) : Int))) := by omega
          obtain ⟨x, hx, hx2⟩ := List.countP_pos_iff.1 hp2
          obtain ⟨k', hk', _, hx3⟩ := ints_mem hx
          obtain ⟨r, r1, r2, rfl⟩ := hmem k' hk'
          have hx3' : b + (r : Int) = x := hx3
          simp at hx2
          omega
      have hZ : rsZ u.p k ≤ 1024 := by
        have hup := F.up
        have ho : outK (rsA u.p k) (pres u.p ++ [k]) ≤ (pres u.p ++ [k]).length := List.countP_le_length
        have := up2_le (outK (rsA u.p k) (pres u.p ++ [k]) : Nat) (by omega) (by omega)
        omega
      have hlv := h.tb.live
      have hn0 := h.n0
      have hzb := h.zb
      have hl := h.lim
      have t1 : H.takeE s ((rsA u.p k : Nat) : Int) = 0 := by
        unfold H.takeE
        rw [if_neg (by omega), if_neg (by omega)]
      have ts : H.takeSt s ((rsA u.p k : Nat) : Int) = s := by
        rw [hA0]
        unfold H.takeSt
        rw [if_neg (by omega), if_neg (by omega), if_pos (by omega)]
      have t2 : H.takeE (H.takeSt s ((rsA u.p k : Nat) : Int)) (3 * ((rsZ u.p k : Nat) : Int)) = 0 := by
        rw [ts]
        unfold H.takeE
        rw [if_neg (by omega), if_neg (by omega)]
      have et : tpE s (rsA u.p k : Nat) (rsZ u.p k : Nat) = 0 := by unfold tpE; rw [if_neg (fun q => q t1), t2]
      have hroom : outK (rsA u.p k) (pres u.p) ≤ rsZ u.p k := by have := F.room; rw [outK_app] at this; omega
      obtain ⟨_, _, _, _, _, f6⟩ := h1.filled F.a F.z hroom
      have er : (Proofs.YtoomlihccniooaaGreat.reh u s k).2.2 = 0 ∧ (Proofs.YtoomlihccniooaaGreat.reh u s k).1.p = fill u.p (fresh (rsA u.p k) (rsZ u.p k)) := by
        unfold Proofs.YtoomlihccniooaaGreat.reh
        rw [if_neg (fun q => q e0), if_neg (fun q => q et)]
        exact ⟨rfl, rfl⟩
      rw [if_neg (fun q => q er.1), er.2]
      refine ⟨i5, ?_, ?_, ?_⟩
      · show (pset _ k v).1.n = 0
        rw [(pset_nz _ k v).1, i2, hA0]
      · show (pset _ k v).1.z ≤ 1024
        rw [(pset_nz _ k v).2, i3]; exact hZ
      · intro i hi
        have hi' : i < rsZ u.p k := by
          have : (pset (fill u.p (fresh (rsA u.p k) (rsZ u.p k))) k v).1.z = rsZ u.p k := by rw [(pset_nz _ k v).2, i3]
          have hi2 : i < (pset (fill u.p (fresh (rsA u.p k) (rsZ u.p k))) k v).1.z := hi
          omega
        have hAf : ¬ inA (fill u.p (fresh (rsA u.p k) (rsZ u.p k))).n k := by rw [i2, hA0]; exact not_inA0 k
        show (pset (fill u.p (fresh (rsA u.p k) (rsZ u.p k))) k v).1.g.K i = nil ∨ ∃ q : Nat, 1 ≤ q ∧ q ≤ j + 1 ∧ (pset (fill u.p (fresh (rsA u.p k) (rsZ u.p k))) k v).1.g.K i = kn (b + q)
        have epf : (pset (fill u.p (fresh (rsA u.p k) (rsZ u.p k))) k v).1.g = (put (fill u.p (fresh (rsA u.p k) (rsZ u.p k))).z (fill u.p (fresh (rsA u.p k) (rsZ u.p k))).g k v).1 := by unfold pset; rw [if_neg hAf]
        rw [epf]
        rcases put_pairs (v := v) i1.inv i1.rt hr (i := i) (by rw [i3]; exact hi') with q | ⟨q, _⟩ | ⟨i', hi2, q, _⟩
        · exact .inl q
        · exact .inr ⟨j + 1, by omega, by omega, by rw [q, hkk]⟩
        · rw [q]
          rw [i3] at hi2
          rcases f6 i' hi2 with r | r
          · exact .inl r
          · obtain ⟨x, x1, x2, x3⟩ := hmem _ (List.mem_append.2 (.inl r))
            exact .inr ⟨x, x1, x2, x3⟩
    · rw [if_pos he]
      have he0 : (pset t.p k v).2.2 = 0 := by
        by_cases q : (pset t.p k v).2.2 = 0
        · exact q
        · rw [ep] at he q ⊢
          rcases (put_bad q).2 with r | ⟨_, r⟩ | ⟨_, _, _, r⟩
          · exact absurd r he
          · exact absurd ⟨hk.1, hv⟩ r
          · exact absurd r hk.2.1
      refine ⟨he0, ?_, ?_, ?_⟩
      · show (pset t.p k v).1.n = 0
        rw [(pset_nz t.p k v).1]; exact h.n0
      · show (pset t.p k v).1.z ≤ 1024
        rw [(pset_nz t.p k v).2]; exact h.zb
      · intro i hi
        have hi' : i < t.p.z := by
          have hi2 : i < (pset t.p k v).1.z := hi
          rwa [(pset_nz t.p k v).2] at hi2
        show (pset t.p k v).1.g.K i = nil ∨ ∃ q : Nat, 1 ≤ q ∧ q ≤ j + 1 ∧ (pset t.p k v).1.g.K i = kn (b + q)
        rw [ep]
        rcases put_pairs (v := v) ti.inv ti.rt hr hi' with q | ⟨q, _⟩ | ⟨i', hi2, q, _⟩
        · exact .inl q
        · exact .inr ⟨j + 1, by omega, by omega, q.trans hkk.symm⟩
        · rcases h.keys i' hi2 with r | ⟨x, x1, x2, x3⟩
          · exact .inl (q.trans r)
          · exact .inr ⟨x, x1, by omega, q.trans x3⟩
  obtain ⟨k1, k2, k3, k4⟩ := key
  obtain ⟨_, _, g1, g2⟩ := mp1 k1
  refine ⟨k1, k2, htb, by rw [hlim]; exact h.lim, k3, k4, fun q q1 q2 => ?_⟩
  by_cases e : q = j + 1
  · rw [e]; exact g1
  · rw [g2 _ (KOK_row (by omega) hb2 (by omega)) (hold q q1 (by omega))]
    exact h.get q q1 (by omega)
end Go.Proofs.YtoomlihccniooaaGreat

/- The pure part of a table, on: when a Set rehashes, and what is behind it. -/
namespace Go.Proofs.YtoomlihccniooaaGreat
open Go.RowKit

theorem Fits.perm {l l' : List V} {A Z : Nat} (h : Fits l A Z) (hp : l.Perm l') : Fits l' A Z := by
  have ho : outK A l' = outK A l := (hp.countP_eq _).symm
  have hi : (ints l).Perm (ints l') := hp.filterMap _
  have hw : ∀ a, C.wi (ints l') a = C.wi (ints l) a := fun a => by unfold C.wi; rw [hi.countP_eq]
  have hd := h.dense
  refine ⟨h.a, h.z, by rw [ho]; exact h.room, ⟨hd.a0, hd.a1, rfl, ?_, fun j hj q => ?_⟩, by rw [ho]; exact h.up, h.pow⟩
  · rw [hw]; exact hd.half
  · rw [hw]; exact hd.most j hj q
/-- What due asks of a key and a value ahead of a Set. -/
def Due (p : Pa) (k v : V) : Prop := plc p k ≤ 0 ∧ (∀ i, i < p.z → p.g.K i ≠ nil) ∧ v.1 ≠ 0 ∧ fm k = true ∧ fm v = true ∧ k.1 ≠ 0
theorem tf_full {K : Nat → V} : ∀ f, (∀ i, i < f → K i ≠ nil) → tf K f = none := by
  intro f
  induction f with
  | zero => intro _; rfl
  | succ f ih => intro h; rw [tf, if_neg (h f (by omega))]; exact ih (fun i hi => h i (by omega))
theorem fnd_none {z : Nat} {g : G} {k : V} (hi : Inv z (pl z) KOK g) (hz : Rt z) (hk : KOK k) (h : (fnd z g k).1 = none) : ∀ i, i < z → g.K i ≠ k := fun i hiz e => by
  have hz0 : z ≠ 0 := by omega
  rw [fnd_good hz0 hk] at h
  cases hf : find (pl z) g k with
  | mk o n =>
    rw [hf] at h
    simp only at h
    subst h
    exact hi.find_none (fun k _ => pl_lt (hz.resolve_left hz0) k) hk.ne hf i hiz e
/-- A Set finds no node if and only if a rehash is due. -/
theorem due_iff {p : Pa} (h : TI p) {k v : V} (hr : Rng k) : Due p k v ↔ (fm k = true ∧ fm v = true ∧ k.1 ≠ 0 ∧ (pset p k v).2.2 = 12) := by
  constructor
  · rintro ⟨d1, d2, d3, d4, d5, d6⟩
    have hk : KOK k := ⟨d4, d6, hr.1, hr.2⟩
    refine ⟨d4, d5, d6, ?_⟩
    have hA : ¬ inA p.n k := fun q => by unfold plc at d1; rw [if_pos q] at d1; have := q.2.2.1; omega
    have hno : (fnd p.z p.g k).1 = none := by
      unfold plc at d1
      rw [if_neg hA] at d1
      cases hf : (fnd p.z p.g k).1 with
      | none => rfl
      | some i => rw [hf] at d1; simp only at d1; omega
    unfold pset
    rw [if_neg hA]
    show (put p.z p.g k v).2.2 = 12
    by_cases hz0 : p.z = 0
    · rw [put, if_pos ⟨d4, d5⟩, if_neg d6, if_pos hz0, if_neg d3]
    · rw [put, if_pos ⟨d4, d5⟩, if_neg d6, if_neg hz0]
      have hz' := h.rt.resolve_left hz0
      rw [fnd_good hz0 hk] at hno
      cases hf : find (pl p.z) p.g k with
      | mk o n =>
        rw [hf] at hno
        simp only at hno
        subst hno
        simp only
        rw [if_neg d3]
        have hpl := pl_lt hz' k
        have e : (ins (pl p.z) p.g k v).2 = false := by
          unfold ins
          rw [if_neg (d2 _ hpl), tf_full p.g.f (fun i hi => d2 i (by have := h.inv.fle; omega))]
        rw [e]; rfl
  · rintro ⟨d4, d5, d6, he⟩
    have hk : KOK k := ⟨d4, d6, hr.1, hr.2⟩
    obtain ⟨hA, _, hv0, hnew, hfull, _⟩ := h.full hk he
    refine ⟨?_, hfull, hv0, d4, d5, d6⟩
    unfold plc
    rw [if_neg hA]
    cases hf : fnd p.z p.g k with
    | mk o n =>
      cases o with
      | none => exact Int.le_refl _
      | some i =>
        exfalso
        have hz0 : p.z ≠ 0 := fun q => by
          have := (fnd_lt h.inv h.rt hr hf).1; omega
        rw [fnd_good hz0 hk] at hf
        obtain ⟨_, h2, h3⟩ := h.inv.find_some (fun k _ => pl_lt (h.rt.resolve_left hz0) k) hk hf
        exact hnew i (fnd_lt h.inv h.rt hr (by rw [fnd_good hz0 hk]; exact hf)).1 (by assumption)

theorem reh_err {u : TS} {s : H.St} {k : V} (h : (reh u s k).2.2 ≠ 0) : (reh u s k).1 = u := by
  unfold reh at h ⊢
  by_cases q : rsE u.p k = 0
  · rw [if_neg (fun x => x q)] at h ⊢
    by_cases q2 : tpE s (rsA u.p k) (rsZ u.p k) = 0
    · rw [if_neg (fun x => x q2)] at h; exact absurd rfl h
    · rw [if_pos q2]
  · rw [if_pos q]
theorem set_same {t : TS} {s : H.St} {k v : V} (h : TI t.p) (hr : Rng k) (hno : ¬ (Due t.p k v ∧ (tset t s k v).2.2 = 0)) : (tset t s k v).1.p.n = t.p.n ∧ (tset t s k v).1.p.z = t.p.z := by
  unfold tset at hno ⊢
  by_cases hf : fm k = true ∧ fm v = true
  · rw [if_neg (fun q => q hf)] at hno ⊢
    by_cases hk0 : k.1 = 0
    · rw [if_pos hk0]; exact ⟨rfl, rfl⟩
    · rw [if_neg hk0] at hno ⊢
      by_cases he : (pset t.p k v).2.2 = 12
      · rw [if_neg (fun q => q he)] at hno ⊢
        have hd := (due_iff h hr).2 ⟨hf.1, hf.2, hk0, he⟩
        by_cases hR : (reh (one t k v) s k).2.2 = 0
        · rw [if_neg (fun q => q hR)] at hno ⊢
          exfalso
          refine hno ⟨hd, ?_⟩
          have hk : KOK k := ⟨hf.1, hk0, hr.1, hr.2⟩
          have hs := tset_map (s := s) (k := k) (v := v) h hr
          have e : (tset t s k v).2.2 = (pset (reh (one t k v) s k).1.p k v).2.2 := by
            unfold tset
            rw [if_neg (fun q => q hf), if_neg hk0, if_neg (fun q => q he), if_neg (fun q => q hR)]
          show (pset (reh (one t k v) s k).1.p k v).2.2 = 0
          obtain ⟨hA, hv, hv0, hnew, _, _, _, ha⟩ := h.full hk he
          have h1 : TI (one t k v).p := h.set hr hv
          have hA1 : ¬ inA (one t k v).p.n k := by show ¬ inA (pset t.p k v).1.n k; rw [(pset_nz t.p k v).1]; exact hA
          have ep : pset t.p k v = ({ t.p with g := (put t.p.z t.p.g k v).1 }, (put t.p.z t.p.g k v).2.1, (put t.p.z t.p.g k v).2.2) := by unfold pset; rw [if_neg hA]
          have hnew1 : ∀ i, i < (one t k v).p.z → (one t k v).p.g.K i ≠ k := fun i hi e => by
            have hi2 : i < t.p.z := by rw [← (pset_nz t.p k v).2]; exact hi
            have he' : (put t.p.z t.p.g k v).2.2 = 12 := by rw [ep] at he; exact he
            have e2 := (put_12 h.inv h.rt hk he').2.2.2.2.1
            have e3 : (pset t.p k v).1.g.K i = k := e
            rw [ep] at e3
            have e4 : (put t.p.z t.p.g k v).1.K i = k := e3
            rw [e2] at e4
            exact hnew i hi2 e4
          have e0 : rsE (one t k v).p k = 0 := by
            unfold reh at hR
            by_cases q : rsE (one t k v).p k = 0
            · exact q
            · rw [if_pos q] at hR; exact absurd hR q
          have e1 : (reh (one t k v) s k).1.p = fill (one t k v).p (fresh (rsA (one t k v).p k) (rsZ (one t k v).p k)) := by
            unfold reh at hR ⊢
            rw [if_neg (fun q => q e0)] at hR ⊢
            by_cases q : tpE s (rsA (one t k v).p k) (rsZ (one t k v).p k) = 0
            · rw [if_neg (fun x => x q)]
            · rw [if_pos q] at hR; exact absurd hR q
          rw [e1]
          exact (h1.behind hk hv hv0 hA1 hnew1 ha e0).2.2.2.2.2
        · rw [if_pos hR, reh_err hR]
          exact pset_nz t.p k v
      · rw [if_pos he]; exact pset_nz t.p k v
  · rw [if_pos hf]; exact ⟨rfl, rfl⟩
theorem set_due {t : TS} {s : H.St} {k v : V} (h : TI t.p) (hr : Rng k) (hd : Due t.p k v) (hz : (tset t s k v).2.2 = 0) (ti' : TI (tset t s k v).1.p) :
    Fits (pres (tset t s k v).1.p) (tset t s k v).1.p.n (tset t s k v).1.p.z ∧ (tset t s k v).1.hint = 0 := by
  obtain ⟨d4, d5, d6, he⟩ := (due_iff h hr).1 hd
  have hk : KOK k := ⟨d4, d6, hr.1, hr.2⟩
  obtain ⟨mk1, _, mk2, mk3⟩ := (tset_map (s := s) (k := k) (v := v) h hr).1 hz
  obtain ⟨hA, hv, hv0, hnew, _, _, hpp, ha⟩ := h.full hk he
  have h1 : TI (one t k v).p := h.set hr hv
  have hb : ∀ k', pget (pset t.p k v).1 k' = pget t.p k' := pset_bad (by rw [he]; decide)
  have et : tset t s k v = if (reh (one t k v) s k).2.2 ≠ 0 then reh (one t k v) s k
      else ({ (reh (one t k v) s k).1 with p := (pset (reh (one t k v) s k).1.p k v).1 }, (reh (one t k v) s k).2.1, (pset (reh (one t k v) s k).1.p k v).2.2) := by
    unfold tset
    rw [if_neg (fun q => q ⟨d4, d5⟩), if_neg d6, if_neg (fun q => q he)]
  have hR : (reh (one t k v) s k).2.2 = 0 := by
    by_cases q : (reh (one t k v) s k).2.2 = 0
    · exact q
    · rw [et, if_pos q] at hz; exact absurd hz q
  rw [if_neg (fun q => q hR)] at et
  have e0 : rsE (one t k v).p k = 0 := by
    unfold reh at hR
    by_cases q : rsE (one t k v).p k = 0
    · exact q
    · rw [if_pos q] at hR; exact absurd hR q
  have e1 : (reh (one t k v) s k).1.p = fill (one t k v).p (fresh (rsA (one t k v).p k) (rsZ (one t k v).p k)) ∧ (reh (one t k v) s k).1.hint = 0 := by
    unfold reh at hR ⊢
    rw [if_neg (fun q => q e0)] at hR ⊢
    by_cases q : tpE s (rsA (one t k v).p k) (rsZ (one t k v).p k) = 0
    · rw [if_neg (fun x => x q)]; exact ⟨rfl, rfl⟩
    · rw [if_pos q] at hR; exact absurd hR q
  obtain ⟨_, F, _, _⟩ := (cens (p := (one t k v).p) ha.ok ha.nd).resolve_left (fun q => by rw [e0] at q; cases q)
  have hnz : (tset t s k v).1.p.n = rsA (one t k v).p k ∧ (tset t s k v).1.p.z = rsZ (one t k v).p k := by
    rw [et]
    show (pset (reh (one t k v) s k).1.p k v).1.n = _ ∧ (pset (reh (one t k v) s k).1.p k v).1.z = _
    rw [(pset_nz _ k v).1, (pset_nz _ k v).2, e1.1, (fill_nz _ _).1, (fill_nz _ _).2]
    exact ⟨rfl, rfl⟩
  refine ⟨?_, by rw [et]; exact e1.2⟩
  rw [hnz.1, hnz.2]
  refine F.perm ?_
  refine (List.perm_ext_iff_of_nodup ha.nd ti'.pres_nd).2 fun k' => ?_
  rw [ti'.mem_pres, List.mem_append, List.mem_singleton]
  have hm1 : ∀ k', k' ∈ pres (one t k v).p ↔ KOK k' ∧ (pget t.p k').1 ≠ 0 := fun k' => by rw [h1.mem_pres]; show _ ∧ (pget (pset t.p k v).1 k').1 ≠ 0 ↔ _; rw [hb]
  have hm2 := hm1 k'
  constructor
  · rintro (q | rfl)
    · obtain ⟨q1, q2⟩ := hm2.1 q
      refine ⟨q1, ?_⟩
      by_cases e : k' = k
      · subst e; rw [mk2]; exact hv0
      · rw [mk3 k' q1 e]; exact q2
    · exact ⟨hk, by rw [mk2]; exact hv0⟩
  · rintro ⟨q1, q2⟩
    by_cases e : k' = k
    · exact .inr e
    · left
      rw [mk3 k' q1 e] at q2
      exact hm2.2 ⟨q1, q2⟩
end Go.Proofs.YtoomlihccniooaaGreat

/- The pure part of a table: what is cleared; how great it becomes; when a Set has no error. -/
namespace Go.Proofs.YtoomlihccniooaaGreat
open Go.RowKit

theorem nil_of {v : V} (h : fm v = true) (h0 : v.1 = 0) : v = nil := by
  obtain ⟨k, n, s⟩ := v
  simp only at h0
  subst h0
  have h1 : inF 0 n s = true := h
  unfold inF at h1
  simp only [if_true, Bool.and_eq_true, decide_eq_true_eq, List.isEmpty_iff] at h1
  obtain ⟨rfl, h2⟩ := h1
  have : s = ⟨#[]⟩ := bytes_iff.1 (by rw [h2]; simp [ByteArray.toList_eq])
  rw [this]; rfl
/-- The first m places are cleared. -/
def clrP (p : Pa) (m : Nat) : Pa := { p with F := fun j => if j < m ∧ j < p.n then nil else p.F j, g := { p.g with X := fun j => if p.n + j < m then nil else p.g.X j } }
theorem clr_0 (p : Pa) : clrP p 0 = p := by
  unfold clrP
  have h1 : (fun j => if j < 0 ∧ j < p.n then nil else p.F j) = p.F := by funext j; rw [if_neg (by omega)]
  have h2 : (fun j => if p.n + j < 0 then nil else p.g.X j) = p.g.X := by funext j; rw [if_neg (by omega)]
  rw [h1, h2]
theorem clr_nz (p : Pa) (m : Nat) : (clrP p m).n = p.n ∧ (clrP p m).z = p.z ∧ (clrP p m).g.f = p.g.f := ⟨rfl, rfl, rfl⟩
theorem clr_pair (p : Pa) (m : Nat) : pairK (clrP p m) m = pairK p m ∧ pairX (clrP p m) m = pairX p m := by
  unfold pairK pairX
  refine ⟨rfl, ?_⟩
  show (if m < p.n then (if m < m ∧ m < p.n then nil else p.F m) else (if p.n + (m - p.n) < m then nil else p.g.X (m - p.n))) = _
  by_cases h : m < p.n
  · rw [if_pos h, if_pos h, if_neg (by omega)]
  · rw [if_neg h, if_neg h, if_neg (by omega)]
theorem clr_skip {p : Pa} (h : TI p) {m : Nat} (hm : m < p.n + p.z) (hv : (pairX p m).1 = 0) : clrP p (m + 1) = clrP p m := by
  unfold pairX at hv
  have h1 : (fun j => if j < m + 1 ∧ j < p.n then nil else p.F j) = fun j => if j < m ∧ j < p.n then nil else p.F j := by
    funext j
    by_cases e : j = m
    · subst e
      by_cases hj : j < p.n
      · rw [if_pos hj] at hv
        rw [if_pos ⟨by omega, hj⟩, if_neg (by omega)]
        exact (nil_of (h.fv j hj) hv).symm
      · rw [if_neg (by omega), if_neg (by omega)]
    · by_cases q : j < m ∧ j < p.n
      · rw [if_pos q, if_pos ⟨by omega, q.2⟩]
      · rw [if_neg q, if_neg (by omega)]
  have h2 : (fun j => if p.n + j < m + 1 then nil else p.g.X j) = fun j => if p.n + j < m then nil else p.g.X j := by
    funext j
    by_cases e : p.n + j = m
    · subst e
      rw [if_neg (by omega), show p.n + j - p.n = j by omega] at hv
      rw [if_pos (by omega), if_neg (by omega)]
      exact (nil_of (h.xv j (by omega)) hv).symm
    · by_cases q : p.n + j < m
      · rw [if_pos q, if_pos (by omega)]
      · rw [if_neg q, if_neg (by omega)]
  unfold clrP
  rw [h1, h2]
theorem clr_A {p : Pa} {m : Nat} (hm : m < p.n) : clrP p (m + 1) = { clrP p m with F := upd (clrP p m).F m nil } := by
  have h1 : (fun j => if j < m + 1 ∧ j < p.n then nil else p.F j) = upd (fun j => if j < m ∧ j < p.n then nil else p.F j) m nil := by
    funext j
    show _ = if j = m then nil else (if j < m ∧ j < p.n then nil else p.F j)
    by_cases e : j = m
    · subst e; rw [if_pos ⟨by omega, hm⟩, if_pos rfl]
    · rw [if_neg e]
      by_cases q : j < m ∧ j < p.n
      · rw [if_pos q, if_pos ⟨by omega, q.2⟩]
      · rw [if_neg q, if_neg (by omega)]
  have h2 : (fun j => if p.n + j < m + 1 then nil else p.g.X j) = fun j => if p.n + j < m then nil else p.g.X j := by
    funext j; rw [if_neg (by omega), if_neg (by omega)]
  show ({ p with F := fun j => if j < m + 1 ∧ j < p.n then nil else p.F j, g := { p.g with X := fun j => if p.n + j < m + 1 then nil else p.g.X j } } : Pa) = { p with F := upd (fun j => if j < m ∧ j < p.n then nil else p.F j) m nil, g := { p.g with X := fun j => if p.n + j < m then nil else p.g.X j } }
  rw [h1, h2]
theorem clr_H {p : Pa} {i : Nat} : clrP p (p.n + i + 1) = { clrP p (p.n + i) with g := setX (clrP p (p.n + i)).g i nil } := by
  have h1 : (fun j => if j < p.n + i + 1 ∧ j < p.n then nil else p.F j) = fun j => if j < p.n + i ∧ j < p.n then nil else p.F j := by
    funext j
    by_cases q : j < p.n
    · rw [if_pos ⟨by omega, q⟩, if_pos ⟨by omega, q⟩]
    · rw [if_neg (by omega), if_neg (by omega)]
  have h2 : (fun j => if p.n + j < p.n + i + 1 then nil else p.g.X j) = upd (fun j => if p.n + j < p.n + i then nil else p.g.X j) i nil := by
    funext j
    show _ = if j = i then nil else (if p.n + j < p.n + i then nil else p.g.X j)
    by_cases e : j = i
    · subst e; rw [if_pos (by omega), if_pos rfl]
    · rw [if_neg e]
      by_cases q : p.n + j < p.n + i
      · rw [if_pos q, if_pos (by omega)]
      · rw [if_neg q, if_neg (by omega)]
  show ({ p with F := fun j => if j < p.n + i + 1 ∧ j < p.n then nil else p.F j, g := { p.g with X := fun j => if p.n + j < p.n + i + 1 then nil else p.g.X j } } : Pa) = { p with F := fun j => if j < p.n + i ∧ j < p.n then nil else p.F j, g := { p.g with X := upd (fun j => if p.n + j < p.n + i then nil else p.g.X j) i nil } }
  rw [h1, h2]
/-- What is there is cleared. -/
theorem clr_set {p : Pa} (h : TI p) {m : Nat} (hm : m < p.n + p.z) (hv : (pairX p m).1 ≠ 0) (t : TS) (s : H.St) (ht : t.p = clrP p m) :
    Rng (pairK p m) ∧ ∃ r, tset t s (pairK p m) nil = ({ t with p := clrP p (m + 1), pr := r }, s, 0) := by
  unfold pairX at hv
  unfold pairK
  by_cases hq : m < p.n
  · rw [if_pos hq] at hv ⊢
    have hle := h.le
    have hr : Rng (kn ((m : Int) + 1)) := by constructor <;> simp <;> omega
    refine ⟨hr, ?_⟩
    have hA : inA t.p.n (kn ((m : Int) + 1)) := by rw [ht]; exact ⟨rfl, rfl, by show 1 ≤ (m : Int) + 1; omega, by show (m : Int) + 1 ≤ (p.n : Int); omega⟩
    have hix : ix (kn ((m : Int) + 1)) = m := by show ((m : Int) + 1).toNat - 1 = m; omega
    have hp : pset t.p (kn ((m : Int) + 1)) nil = (clrP p (m + 1), 0, 0) := by
      unfold pset
      rw [if_pos hA, hix, clr_A hq, ht]
    have hf : fm (kn ((m : Int) + 1)) = true := by unfold fm inF; simp [ByteArray.toList_eq]
    refine ⟨t.pr + (0 : Nat), ?_⟩
    unfold tset one
    rw [if_neg (fun q => q ⟨hf, fm_nil⟩), if_neg (show ¬ (kn ((m : Int) + 1)).1 = 0 from (by show ¬ (2 : Int) = 0; omega)), hp, if_pos (fun e : (0 : Int) = 12 => absurd e (by decide))]
  · rw [if_neg hq] at hv ⊢
    obtain ⟨i, rfl⟩ : ∃ i, m = p.n + i := ⟨m - p.n, by omega⟩
    rw [show p.n + i - p.n = i by omega] at hv ⊢
    have hi : i < p.z := by omega
    have hK : p.g.K i ≠ nil := fun e => hv (by rw [h.inv.val i hi e]; rfl)
    have hk : KOK (p.g.K i) := (h.inv.key i hi).resolve_left hK
    have hz0 : p.z ≠ 0 := by omega
    have hpw := h.rt.resolve_left hz0
    obtain ⟨pq, _, _, _, hfind⟩ := h.inv.find_held (fun k _ => pl_lt hpw k) hi hK
    have hA : ¬ inA t.p.n (p.g.K i) := by rw [ht]; exact h.out i hi
    have hput : ∃ n', put p.z (clrP p (p.n + i)).g (p.g.K i) nil = (setX (clrP p (p.n + i)).g i nil, n', 0) := by
      refine ⟨pq.length + 1, ?_⟩
      unfold put
      rw [if_pos ⟨hk.1, fm_nil⟩, if_neg hk.2.1, if_neg hz0]
      have e : find (pl p.z) (clrP p (p.n + i)).g (p.g.K i) = find (pl p.z) p.g (p.g.K i) := rfl
      rw [e, hfind]
    obtain ⟨n', hput⟩ := hput
    have hp : pset t.p (p.g.K i) nil = (clrP p (p.n + i + 1), n', 0) := by
      unfold pset
      rw [if_neg hA, ht]
      show ({ clrP p (p.n + i) with g := (put p.z (clrP p (p.n + i)).g (p.g.K i) nil).1 }, (put p.z (clrP p (p.n + i)).g (p.g.K i) nil).2.1, (put p.z (clrP p (p.n + i)).g (p.g.K i) nil).2.2) = _
      rw [hput, clr_H]
    refine ⟨hk.2.2, t.pr + n', ?_⟩
    unfold tset one
    rw [if_neg (fun q => q ⟨hk.1, fm_nil⟩), if_neg hk.2.1, hp, if_pos (fun e : (0 : Int) = 12 => absurd e (by decide))]
theorem clr_pres (p : Pa) : pres (clrP p (p.n + p.z)) = [] := by
  have h1 : ∀ m, m ≤ p.n → kA (clrP p (p.n + p.z)).F m = [] := fun m => by
    induction m with
    | zero => intro _; rfl
    | succ m ih =>
      intro hm
      rw [kA, ih (by omega)]
      show [] ++ (if (if m < p.n + p.z ∧ m < p.n then nil else p.F m).1 = 0 then [] else _) = []
      rw [if_pos (show m < p.n + p.z ∧ m < p.n from ⟨by omega, by omega⟩), if_pos (show (nil : V).1 = 0 from rfl)]; rfl
  have h2 : ∀ m, m ≤ p.z → kH (clrP p (p.n + p.z)).g m = [] := fun m => by
    induction m with
    | zero => intro _; rfl
    | succ m ih =>
      intro hm
      rw [kH, ih (by omega)]
      show [] ++ (if (if p.n + m < p.n + p.z then nil else p.g.X m).1 = 0 then [] else _) = []
      rw [if_pos (show p.n + m < p.n + p.z by omega), if_pos (show (nil : V).1 = 0 from rfl)]; rfl
  unfold pres
  rw [show (clrP p (p.n + p.z)).n = p.n from rfl, show (clrP p (p.n + p.z)).z = p.z from rfl, h1 _ (Nat.le_refl _), h2 _ (Nat.le_refl _)]
  rfl

/-- A list without repeats is no longer than one that holds all of it. -/
theorem nd_len {α : Type} : ∀ {l l' : List α}, l.Nodup → (∀ x, x ∈ l → x ∈ l') → l.length ≤ l'.length
  | [], _, _, _ => Nat.zero_le _
  | a :: l, l', hn, hs => by
    obtain ⟨s, t, rfl⟩ := List.append_of_mem (hs a (by simp))
    have h := nd_len (l := l) (l' := s ++ t) (List.nodup_cons.1 hn).2 (fun x hx => by
      have := hs x (by simp [hx])
      have hne : x ≠ a := fun e => (List.nodup_cons.1 hn).1 (e ▸ hx)
      simp only [List.mem_append, List.mem_cons] at this ⊢
      rcases this with q | q | q
      · exact .inl q
      · exact absurd q hne
      · exact .inr q)
    simp only [List.length_append, List.length_cons] at h ⊢
    omega
theorem Fits.bound {l : List V} {A Z : Nat} (h : Fits l A Z) (hl : l.length ≤ 65536) : A ≤ 2 * l.length ∧ Z ≤ 2 * l.length := by
  have hi := ints_len l
  have hw : C.wi (ints l) A ≤ (ints l).length := by
    unfold C.wi
    have := List.countP_le_length (p := fun x => decide (1 ≤ x ∧ x ≤ (A : Int))) (l := ints l)
    omega
  have ho : outK A l ≤ l.length := List.countP_le_length
  constructor
  · by_cases h0 : A = 0
    · omega
    · have := h.dense.half (by omega); omega
  · have hu := h.up
    rcases C.up2_facts (outK A l : Nat) (by omega) (by omega) with ⟨q1, q2⟩ | ⟨q1, q2, q3, _⟩
    · rw [q2] at hu; omega
    · omega
theorem rs_ok {p : Pa} {k : V} (h : ∀ k', k' ∈ pres p ++ [k] → KOK k') (hn : (pres p ++ [k]).Nodup) (hl : (pres p ++ [k]).length ≤ 7000) : rsE p k = 0 ∧ rsA p k ≤ 14000 ∧ rsZ p k ≤ 14000 := by
  rcases cens h hn with q | ⟨q1, q2, _⟩
  · exfalso
    have hi := ints_len (pres p ++ [k])
    have hd := (C.dense_of (ints (pres p ++ [k])) (ints_fit h)).n
    unfold rsE at q
    have hw : 0 ≤ C.chN (C.cntL (ints (pres p ++ [k]))) 17 := by rw [← hd]; unfold C.wi; omega
    rcases C.szE_cases (ints (pres p ++ [k])) (oth (pres p ++ [k]) : Nat) with ⟨e, _⟩ | e
    · rw [e] at q; cases q
    · unfold C.szE C.rest at q
      split at q
      · cases q
      · split at q
        · cases q
        · split at q
          · rename_i h1; omega
          · cases q
  · have := q2.bound (by omega)
    exact ⟨q1, by omega, by omega⟩
/-- A rehash that is due has no error but the heap's. -/
theorem due_zero {t : TS} {s : H.St} {k v : V} (h : TI t.p) (hr : Rng k) (hd : Due t.p k v) (hR : (reh (one t k v) s k).2.2 = 0) : (tset t s k v).2.2 = 0 := by
  obtain ⟨d4, d5, hk0, he⟩ := (due_iff h hr).1 hd
  have hk : KOK k := ⟨d4, hk0, hr.1, hr.2⟩
  have e : (tset t s k v).2.2 = (pset (reh (one t k v) s k).1.p k v).2.2 := by
    unfold tset
    rw [if_neg (fun q => q ⟨d4, d5⟩), if_neg hk0, if_neg (fun q => q he), if_neg (fun q => q hR)]
  rw [e]
  obtain ⟨hA, hv, hv0, hnew, _, _, _, ha⟩ := h.full hk he
  have h1 : TI (one t k v).p := h.set hr hv
  have hA1 : ¬ inA (one t k v).p.n k := by show ¬ inA (pset t.p k v).1.n k; rw [(pset_nz t.p k v).1]; exact hA
  have ep : pset t.p k v = ({ t.p with g := (put t.p.z t.p.g k v).1 }, (put t.p.z t.p.g k v).2.1, (put t.p.z t.p.g k v).2.2) := by unfold pset; rw [if_neg hA]
  have hnew1 : ∀ i, i < (one t k v).p.z → (one t k v).p.g.K i ≠ k := fun i hi e => by
    have hi2 : i < t.p.z := by rw [← (pset_nz t.p k v).2]; exact hi
    have he' : (put t.p.z t.p.g k v).2.2 = 12 := by rw [ep] at he; exact he
    have e2 := (put_12 h.inv h.rt hk he').2.2.2.2.1
    have e3 : (pset t.p k v).1.g.K i = k := e
    rw [ep] at e3
    have e4 : (put t.p.z t.p.g k v).1.K i = k := e3
    rw [e2] at e4
    exact hnew i hi2 e4
  have e0 : rsE (one t k v).p k = 0 := by
    unfold reh at hR
    by_cases q : rsE (one t k v).p k = 0
    · exact q
    · rw [if_pos q] at hR; exact absurd hR q
  have e1 : (reh (one t k v) s k).1.p = fill (one t k v).p (fresh (rsA (one t k v).p k) (rsZ (one t k v).p k)) := by
    unfold reh at hR ⊢
    rw [if_neg (fun q => q e0)] at hR ⊢
    by_cases q : tpE s (rsA (one t k v).p k) (rsZ (one t k v).p k) = 0
    · rw [if_neg (fun x => x q)]
    · rw [if_pos q] at hR; exact absurd hR q
  rw [e1]
  exact (h1.behind hk hv hv0 hA1 hnew1 ha e0).2.2.2.2.2
theorem take0 {s : H.St} {n : Int} (h0 : 0 ≤ n) (h1 : n ≤ s.lim - s.live) : H.takeE s n = 0 := by
  unfold H.takeE; rw [if_neg (by omega), if_neg (by omega)]
/-- A small table on a great heap: a rehash that is due has no error. -/
theorem due_ok {t : TS} {s : H.St} {k v : V} (h : TI t.p) (hr : Rng k) (hd : Due t.p k v) (tb : TB t s 4) (iv : H.Inv 0 s) (hl : s.lim = 400000) (hn : t.p.n ≤ 2048) (hz : t.p.z ≤ 4096) : (tset t s k v).2.2 = 0 := by
  obtain ⟨d4, d5, hk0, he⟩ := (due_iff h hr).1 hd
  have hk : KOK k := ⟨d4, hk0, hr.1, hr.2⟩
  obtain ⟨_, _, _, _, _, _, hpp, ha⟩ := h.full hk he
  refine due_zero h hr hd ?_
  have hlen : (pres (one t k v).p ++ [k]).length ≤ 7000 := by
    have h1 := kA_len t.p.F t.p.n
    have h2 := kH_len t.p.g t.p.z
    have e : pres (one t k v).p = pres t.p := hpp
    rw [e, List.length_append]
    unfold pres
    rw [List.length_append]
    simp only [List.length_singleton]
    omega
  obtain ⟨r1, r2, r3⟩ := rs_ok (p := (one t k v).p) ha.ok ha.nd hlen
  have hlv := tb.live
  have t1 : H.takeE s (rsA (one t k v).p k : Nat) = 0 := take0 (by omega) (by omega)
  obtain ⟨_, a2, a3, _⟩ := blk_take iv t1
  have t2 : H.takeE (H.takeSt s (rsA (one t k v).p k : Nat)) (3 * (rsZ (one t k v).p k : Nat)) = 0 := take0 (by omega) (by omega)
  have t3 : tpE s (rsA (one t k v).p k : Nat) (rsZ (one t k v).p k : Nat) = 0 := by unfold tpE; rw [if_neg (fun q => q t1)]; exact t2
  unfold reh
  rw [if_neg (fun q => q r1), if_neg (fun q => q t3)]
/-- Where a node is free a Set has no error. -/
theorem set_room {t : TS} {s : H.St} {k v : V} (h : TI t.p) (hr : Rng k) (hk : fm k = true) (hv : fm v = true) (hk0 : k.1 ≠ 0) (hno : ¬ ∀ i, i < t.p.z → t.p.g.K i ≠ nil) : tset t s k v = (one t k v, s, 0) := by
  have hkk : KOK k := ⟨hk, hk0, hr.1, hr.2⟩
  have h12 : (pset t.p k v).2.2 ≠ 12 := fun e => hno (h.full hkk e).2.2.2.2.1
  have h0 : (pset t.p k v).2.2 = 0 := by
    unfold pset at h12 ⊢
    by_cases hA : inA t.p.n k
    · rw [if_pos hA]
    · rw [if_neg hA] at h12 ⊢
      show (put t.p.z t.p.g k v).2.2 = 0
      have h12' : (put t.p.z t.p.g k v).2.2 ≠ 12 := h12
      unfold put at h12' ⊢
      rw [if_pos ⟨hk, hv⟩, if_neg hk0] at h12' ⊢
      by_cases hz0 : t.p.z = 0
      · rw [if_pos hz0] at h12' ⊢
        by_cases hv0 : v.1 = 0
        · show (if v.1 = 0 then (0 : Int) else 12) = 0; rw [if_pos hv0]
        · exact absurd (by show (if v.1 = 0 then (0 : Int) else 12) = 12; rw [if_neg hv0]) h12'
      · rw [if_neg hz0] at h12' ⊢
        cases hf : find (pl t.p.z) t.p.g k with
        | mk o n =>
          rw [hf] at h12'
          cases o with
          | some i => rfl
          | none =>
            simp only at h12' ⊢
            by_cases hv0 : v.1 = 0
            · rw [if_pos hv0]
            · rw [if_neg hv0] at h12' ⊢
              have h12'' : full (ins (pl t.p.z) t.p.g k v).2 ≠ 12 := h12'
              show full (ins (pl t.p.z) t.p.g k v).2 = 0
              cases hb : (ins (pl t.p.z) t.p.g k v).2 with
              | true => rfl
              | false => rw [hb] at h12''; exact absurd rfl h12''
  unfold tset
  rw [if_neg (fun q => q ⟨hk, hv⟩), if_neg hk0, if_pos h12, h0]
/-- A table stays small: at most k keys are present. -/
structure Sm (t : TS) (k : Nat) : Prop where
  n : t.p.n ≤ 2048
  z : t.p.z ≤ 4096
  pr : (pres t.p).length ≤ k
theorem Sm.set {t : TS} {s : H.St} {m : Nat} {k v : V} (h : Sm t m) (hm : m ≤ 500) (ti : TI t.p) (hr : Rng k) (ti' : TI (tset t s k v).1.p) : Sm (tset t s k v).1 (m + 1) := by
  have hp : (pres (tset t s k v).1.p).length ≤ m + 1 := by
    have h1 : (pres (tset t s k v).1.p).length ≤ (k :: pres t.p).length := nd_len ti'.pres_nd (fun k' hk' => by
      obtain ⟨q1, q2⟩ := ti'.mem_pres.1 hk'
      by_cases e : k' = k
      · simp [e]
      · refine List.mem_cons_of_mem _ (ti.mem_pres.2 ⟨q1, ?_⟩)
        obtain ⟨m1, m2⟩ := tset_map (s := s) (k := k) (v := v) ti hr
        by_cases q : (tset t s k v).2.2 = 0
        · rw [(m1 q).2.2.2 k' q1 e] at q2; exact q2
        · rw [m2 q k'] at q2; exact q2)
    have := h.pr
    simp only [List.length_cons] at h1
    omega
  by_cases hd : Due t.p k v ∧ (tset t s k v).2.2 = 0
  · have hf := (set_due ti hr hd.1 hd.2 ti').1
    have := hf.bound (by omega)
    exact ⟨by omega, by omega, hp⟩
  · obtain ⟨e1, e2⟩ := set_same (s := s) ti hr hd
    exact ⟨by rw [e1]; exact h.n, by rw [e2]; exact h.z, hp⟩
end Go.Proofs.YtoomlihccniooaaGreat

/- The walk of begin: both tables, of small sizes. -/
namespace Go.Proofs.YtoomlihccniooaaGreat
open Go.RowKit

/-- A size that is played. -/
def sz (x : Int) : Int := IntKind.u64.wrap x % 200
theorem sz_ok (x : Int) : 0 ≤ sz x ∧ sz x < 200 := by unfold sz; rw [IntKind.wrap_u64]; omega
theorem ne_small {x y : Int} (hx : 0 ≤ x ∧ x < 200) (hy : 0 ≤ y ∧ y < 200) : nE (H.newSt 400000) x y = 0 := by
  have iv := H.Inv.new 400000 (by omega) (by omega)
  have h4 : H.takeE (H.newSt 400000) 4 = 0 := by kernel_rfl
  obtain ⟨a1, a2, a3, a4⟩ := blk_take iv h4
  have hp : inP x ∧ inP y := ⟨⟨by omega, by omega⟩, ⟨by omega, by omega⟩⟩
  rw [(nE_rest hp h4).1]
  have l0 : (H.newSt 400000).live = 0 := rfl
  have m0 : (H.newSt 400000).lim = 400000 := rfl
  have hz : C.up2 y ≤ 1024 ∧ 0 ≤ C.up2 y := by
    refine ⟨up2_le y hy.1 (by omega), ?_⟩
    rcases C.up2_facts y (by omega) (by omega) with ⟨q1, q2⟩ | ⟨q1, q2, q3, _⟩ <;> omega
  have e1 : H.takeE (H.takeSt (H.newSt 400000) 4) x = 0 := take0 (by omega) (by rw [a2, a3]; omega)
  obtain ⟨c1, c2, c3, c4⟩ := blk_take (iv.take 4) e1
  have e2 : H.takeE (H.takeSt (H.takeSt (H.newSt 400000) 4) x) (3 * C.up2 y) = 0 := take0 (by omega) (by rw [c2, c3, a2, a3]; omega)
  unfold tpE
  rw [if_neg (fun q => q e1)]
  exact e2
/-- A table at the beginning. -/
structure St0 (t : TS) (s : H.St) : Prop where
  n : t.p.n ≤ 2048
  z : t.p.z ≤ 4096
  pr : pres t.p = []
  hint : t.hint = 0
  tb : TB t s 4
  lim : s.lim = 400000
theorem Okn.st0 {x y : Int} (hx : 0 ≤ x ∧ x < 200) (hy : 0 ≤ y ∧ y < 200) {n z : Nat} (o : Okn (H.newSt 400000) x y n z) {t : TS} (et : t = newT n z t.sb t.nb) (e1 : t.sb = H.takeId (H.takeSt (H.newSt 400000) 4) (n : Nat)) (e2 : t.nb = H.takeId (H.takeSt (H.takeSt (H.newSt 400000) 4) (n : Nat)) (3 * (z : Nat))) :
    St0 t (nS (H.newSt 400000) x y) := by
  have iv := H.Inv.new 400000 (by omega) (by omega)
  have tb := o.tb iv et e1 e2
  have hxn := o.ex
  obtain ⟨m, hm, hm2, hz⟩ := o.hy
  have hzz : z ≤ 4096 := by
    rcases C.up2_facts (m : Nat) (by omega) (by omega) with ⟨q1, q2⟩ | ⟨q1, q2, q3, _⟩ <;> omega
  have en : t.p.n = n := by rw [et]; rfl
  have ez : t.p.z = z := by rw [et]; rfl
  refine ⟨by omega, by omega, ?_, by rw [et]; rfl, tb, ?_⟩
  · rw [et]
    show pres (fresh n z) = []
    have h1 : ∀ m, kA (fresh n z).F m = [] := fun m => by
      induction m with
      | zero => rfl
      | succ m ih => rw [kA, ih]; rfl
    have h2 : ∀ m, kH (fresh n z).g m = [] := fun m => by
      induction m with
      | zero => rfl
      | succ m ih => rw [kH, ih]; rfl
    unfold pres
    rw [h1, h2]; rfl
  · rw [o.es]
    rw [(blk_take ((iv.take 4).take (n : Nat)) o.e3).2.2.1, (blk_take (iv.take 4) o.e2).2.2.1, (blk_take iv o.e1).2.2.1]
    rfl
set_option maxRecDepth 20000 in
set_option maxHeartbeats 4000000 in
theorem begin_any (x y : Int) (v : Value) (w : World) :
    Calls Tryz.prog 6 #[cw x y v] w fun e w' => ∃ T A b a S hb RT t s, e = .returned (.tuple #[tp T, tp RT, .bool true]) ∧ TT (fun g => g < w.heap.size) w' T A b a S hb 3 t s ∧ Below w.heap.size w w' ∧ St0 t s ∧ t = newT t.p.n t.p.z t.sb t.nb ∧ s = nS (H.newSt 400000) (sz x) (sz y) ∧ Okn (H.newSt 400000) (sz x) (sz y) t.p.n t.p.z ∧ t.sb = H.takeId (H.takeSt (H.newSt 400000) 4) (t.p.n : Nat) ∧ t.nb = H.takeId (H.takeSt (H.takeSt (H.newSt 400000) 4) (t.p.n : Nat)) (3 * (t.p.z : Nat)) := by
  have hx := sz_ok x
  have hy := sz_ok y
  have he := ne_small hx hy
  have iv := H.Inv.new 400000 (by omega) (by omega)
  have C1 := fun W => H.new_walk W 400000 (by omega) (by omega)
  have B0 := b1 w (.cells #[.int .i64 x, .int .i64 y, v] 24)
  have c0 : (w.alloc (.cells #[.int .i64 x, .int .i64 y, v] 24)).heap[w.heap.size]? = some (.cells #[.int .i64 x, .int .i64 y, v] 24) := (MapKept.heap_alloc w _).1
  obtain ⟨W0, hW0⟩ : ∃ W0, w.alloc (.cells #[.int .i64 x, .int .i64 y, v] 24) = W0 := ⟨_, rfl⟩
  rw [hW0] at B0 c0
  have x1 : W0.cell? ⟨w.heap.size, 0, none⟩ = some (.int .i64 x) := cell_of_row c0 0
  have x2 : W0.cell? ⟨w.heap.size, 1, none⟩ = some (.int .i64 y) := cell_of_row c0 1
  obtain ⟨W0', hW0'⟩ : ∃ W, W0.drew = W := ⟨_, rfl⟩
  have B0' : Below w.heap.size w W0' := by rw [← hW0']; exact bthen B0 B0.size (bdrew1 W0)
  have hp := new_hp W0' 400000 (fun g => g < W0'.heap.size) (fun g q => q)
  have B1 := b2 W0' (.map #[] 0) (.cells #[.int .i64 400000, .int .i64 0, .int .i64 0, .slice none 0 0, .map (some W0'.heap.size)] 109)
  have C1' := C1 W0'
  obtain ⟨W1, hW1⟩ : ∃ W1, (W0'.alloc (.map #[] 0)).alloc (.cells #[.int .i64 400000, .int .i64 0, .int .i64 0, .slice none 0 0, .map (some W0'.heap.size)] 109) = W1 := ⟨_, rfl⟩
  rw [hW1] at hp B1 C1'
  obtain ⟨n', z, hok⟩ := okn he
  have C2 := hok.new hp (by omega) iv
  have HB1 : Hid (Below w.heap.size w W1) := bthen B0' B0'.size B1
  have HBs : Hid (w.heap.size ≤ W0'.heap.size ∧ W0'.heap.size ≤ W1.heap.size) := ⟨B0'.size, B1.size⟩
  have HC3 : Hid (∀ W : World, RH (fun g => g < W.heap.size) (W.alloc (.cells #[.int .i64 400000, .int .i64 0, .int .i64 0, .slice none 0 0] 78)) W.heap.size 0 (H.newSt 400000)) := fun W => new_rh W 400000 _ (fun g q => q)
  have HOK : Hid (Okn (H.newSt 400000) (sz x) (sz y) n' z) := hok
  have HIv : Hid (H.Inv 0 (H.newSt 400000)) := iv
  have HXY : Hid ((0 ≤ sz x ∧ sz x < 200) ∧ (0 ≤ sz y ∧ sz y < 200)) := ⟨hx, hy⟩
  have y1 : W0'.cell? ⟨w.heap.size, 0, none⟩ = some (.int .i64 x) := by rw [← hW0']; exact x1
  have y2 : W0'.cell? ⟨w.heap.size, 1, none⟩ = some (.int .i64 y) := by rw [← hW0']; exact x2
  have hw1 : wrap64 ((IntKind.u64.wrap x).tmod 200) = sz x := by
    have : 0 ≤ IntKind.u64.wrap x := by rw [IntKind.wrap_u64]; omega
    unfold sz at *; rw [Int.tmod_eq_emod_of_nonneg this]; unfold wrap64; omega
  have hw2 : wrap64 ((IntKind.u64.wrap y).tmod 200) = sz y := by
    have : 0 ≤ IntKind.u64.wrap y := by rw [IntKind.wrap_u64]; omega
    unfold sz at *; rw [Int.tmod_eq_emod_of_nonneg this]; unfold wrap64; omega
  have HT : Hid (∀ W T A b a t s, TT (fun g => g < W0'.heap.size) W T A b a (W0'.heap.size + 1) W0'.heap.size 3 t s → Keep (fun g => g < W0'.heap.size) W1 W → ∀ W', Keep (fun g => g < W.heap.size) W W' → TT (fun g => g < w.heap.size) W' T A b a (W0'.heap.size + 1) W0'.heap.size 3 t s ∧ Below w.heap.size w W') := fun W T A b a t s q k W' k' => by
    refine ⟨(q.frame2 k'.os k'.tape k'.output k'.size (fun g hg _ => k'.block g hg hg)).sub (fun g hg => .inl (Nat.lt_of_lt_of_le hg HBs.out.1)), ?_⟩
    have hb := HB1.out.trans (k.below HB1.out.size (fun g hg => Nat.lt_of_lt_of_le hg HBs.out.1))
    exact hb.trans (k'.below hb.size (fun g hg => Nat.lt_of_lt_of_le hg hb.size))
  clear B0 B0' B1 c0 C1 hp iv hx hy he hok
  unfold cw tp
  go_enter Tryz.func6, Tryz.ntmps6
  go_upto_region 1 with fail
  go_cut [5, 6] from 13 to 22 (fun p q wx => p = .int .i64 (sz x) ∧ q = .int .i64 (sz y) ∧ wx = W0')
  case first =>
    go_region
    all_goals
      go_wp2_with fail
      go_meet
      exact ⟨by rw [hw1], by rw [hw2], rfl⟩
  case rest =>
    obtain ⟨rfl, rfl, hwc⟩ := hcut
    subst hwc
    clear hW0'
    go_wp2_with fail
    refine C1'.mono ?_; rintro e w1 ⟨rfl, hw1⟩; rw [hw1]; clear hw1 C1'
    go_wp2_with fail
    refine C2.mono ?_; rintro e W2 ⟨T, A, b, a', rfl, tt2, kk2⟩
    have B3 := b1 W2 (.cells #[.int .i64 400000, .int .i64 0, .int .i64 0, .slice none 0 0] 78)
    have rh := HC3.out W2
    have HT2 : Hid _ := And.intro tt2 kk2
    obtain ⟨W3, hW3⟩ : ∃ W3, W2.alloc (.cells #[.int .i64 400000, .int .i64 0, .int .i64 0, .slice none 0 0] 78) = W3 := ⟨_, rfl⟩
    rw [hW3] at B3 rh
    have C4 := HOK.out.rnew rh (by omega) HIv.out
    have HB3 : Hid (Below W2.heap.size W2 W3) := B3
    clear C2 tt2 kk2 B3 rh
    go_wp2_with fail
    refine C4.mono ?_; rintro e W4 ⟨RT, RA, P, ka, va, ca, rfl, rh4, kk4, nr4⟩
    have HF : Hid _ := HT.out _ _ _ _ _ _ _ HT2.out.1 HT2.out.2 W4 ((Keep.of HB3.out).trans kk4)
    clear C4 rh4 kk4 nr4
    go_wp2_with fail
    refine bodyPost_ret (v := .tuple #[.pointer (some ⟨T, 0, none⟩), .pointer (some ⟨RT, 0, none⟩), .bool true]) (by simp [results, Tryz.results6, go_sem]) rfl ⟨T, A, b, a', _, _, RT, _, _, rfl, HF.out.1, HF.out.2, ?_⟩
    exact ⟨HOK.out.st0 HXY.out.1 HXY.out.2 rfl rfl rfl, rfl, rfl, HOK.out, rfl, rfl⟩
end Go.Proofs.YtoomlihccniooaaGreat

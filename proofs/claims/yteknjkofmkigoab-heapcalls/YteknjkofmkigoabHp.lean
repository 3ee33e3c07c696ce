/- A heap of the program's in memory: the map of lists that lie ready, the struct, the blocks; what a call leaves as it was. -/
import Derived.Test.YteknjkofmkigoabProg
import Derived.WalkKit
import Derived.WalkSpells
import Derived.Below
import Derived.MapKept
import Derived.RegionTactic
import Derived.Laws.MakeOwn
import Derived.Laws.Rows
import Derived.OwnWalk
import Derived.Tactics
import Derived.Tactics2
import Derived.LoopTactic
import Derived.Maps.GroupsBeside
import Derived.Deep.AppendLies
namespace Go.Proofs.Yteknjkofmkigoab.H
open Go.RowKit Go.Maps Go.WideElems Go.MapKept Go.ChangeShapes

theorem zero22 (w : World) : (zeroValue 22).run Try.prog w = .ok (.slice none 0 0) w := by kernel_rfl
theorem law3 : Keyed Try.prog 3 := int_keyed Try.underlying3
theorem key3 {k : Int} (h : (Lit.int .i64 k).wf = true) : keyOf Try.prog 3 (.int .i64 k) = some (.int .i64 k) := keyOf_int_mk Try.underlying3 h
theorem wf_of {k : Int} (h0 : -9223372036854775808 ≤ k) (h1 : k ≤ 9223372036854775807) : (Lit.int .i64 k).wf = true := WalkArith.wf_i64 (by omega)

/-- The numbers of a list as it is read. -/
def items : DataW Unit → List Int
  | .slice es _ => es.filterMap fun | .lit (.int _ n) => some n | _ => none
  | _ => []
theorem items_lits (q : IntKind) (zs : List Int) : items (.slice (lits q zs) []) = zs := by
  simp only [items, lits, List.filterMap_map]
  induction zs with
  | nil => rfl
  | cons z zs ih => simp [ih]
theorem items_row {w : World} {base : Nat} {v : Value} {zs : List Int} (h : w.ownsInts base 3 .i64 v zs) : items (rowDatum .i64 v zs) = zs := by
  rcases h.datum (H := Unit) with ⟨e, e2⟩ | e
  · rw [e, e2]; rfl
  · rw [e]; exact items_lits _ _

/-- Block b is the map; at the key k it holds the list R k; none of its rows is one of No's. -/
def Rdy (No : Nat → Prop) (w : World) (b n : Nat) (R : Int → List Int) : Prop :=
  ∃ D : DataW Unit, w.ownsGroups Try.prog 3 (b + 1) 3 .i64 b n D ∧ w.Shuns b No ∧ ∀ k, (Lit.int .i64 k).wf = true → items (D.atKey (.int .i64 k) .nil) = R k

theorem Rdy.block {No : Nat → Prop} {w : World} {b n : Nat} {R : Int → List Int} (h : Rdy No w b n R) : ∃ es clock, w.heap[b]? = some (.map es clock) := by
  obtain ⟨D, ⟨es, clock, hb, _⟩, _⟩ := h
  exact ⟨es, clock, hb⟩

theorem Rdy.made (No : Nat → Prop) (w : World) : Rdy No (w.alloc (.map #[] 0)) w.heap.size 0 (fun _ => []) :=
  ⟨.map [], World.ownsGroups_made w _ _ _ _, World.Shuns_made w No, fun _ _ => rfl⟩

/-- Over whatever turns one other block that is no row of ints. -/
theorem Rdy.kept {No : Nat → Prop} {w w' : World} {b n : Nat} {row : Option Nat} {R : Int → List Int} (h : Rdy No w b n R) (hg : w.grownBy w' row) (hr : ∀ g, row = some g → b ≠ g ∧ ∀ cs fr, w.heap[g]? ≠ some (.cells cs 3 fr)) : Rdy No w' b n R := by
  obtain ⟨D, ho, hs, hR⟩ := h
  have hlt : b < w.heap.size := by obtain ⟨es, clock, q, _⟩ := ho; exact (Array.getElem?_eq_some_iff.1 q).1
  have hb : some b ≠ row := fun e => (hr b e.symm).1 rfl
  refine ⟨D, ho.kept hg hb (fun es clock hbk x hx => ?_), hs.kept hg hlt hb, hR⟩
  obtain ⟨es', clock', hbk', F, _⟩ := ho
  obtain ⟨rfl, rfl⟩ : es' = es ∧ clock' = clock := by rw [hbk'] at hbk; simpa using hbk
  cases q : x.val.ownBlock with
  | none => exact .inl rfl
  | some y =>
    right
    intro e
    obtain ⟨z, hz⟩ := F.reads x hx
    obtain ⟨z2, hz2, _⟩ := rd_val hz
    obtain ⟨zs, hoi, _⟩ := rowElem_inv hz2
    rcases hoi.1.2 with ⟨e1, _⟩ | ⟨g', cap, cur, e1, _, hh, _⟩
    · rw [e1] at q; cases q
    · rw [e1] at q
      injection q with q
      subst q
      exact (hr _ e.symm).2 _ _ hh
theorem Rdy.alloc {No : Nat → Prop} {w : World} {b n : Nat} {R : Int → List Int} (h : Rdy No w b n R) (o : Obj) : Rdy No (w.alloc o) b n R := by
  obtain ⟨D, ho, hs, hR⟩ := h
  have hlt : b < w.heap.size := by obtain ⟨es, clock, q, _⟩ := ho; exact (Array.getElem?_eq_some_iff.1 q).1
  refine ⟨D, ho.kept (World.grownBy_alloc w o none) (by simp) (fun es clock hbk x hx => ?_), hs.kept (World.grownBy_alloc w o none) hlt (by simp), hR⟩
  cases x.val.ownBlock <;> simp
theorem Rdy.drew {No : Nat → Prop} {w : World} {b n : Nat} {R : Int → List Int} (h : Rdy No w b n R) : Rdy No w.drew b n R := by
  obtain ⟨D, ho, hs, hR⟩ := h
  have hlt : b < w.heap.size := by obtain ⟨es, clock, q, _⟩ := ho; exact (Array.getElem?_eq_some_iff.1 q).1
  have hg : w.grownBy w.drew none := ⟨rfl, rfl, rfl, Nat.le_refl _, fun _ _ _ => rfl⟩
  refine ⟨D, ho.kept hg (by simp) (fun es clock hbk x hx => ?_), hs.kept hg hlt (by simp), hR⟩
  cases x.val.ownBlock <;> simp
theorem Rdy.more {No : Nat → Prop} {w : World} {b n m : Nat} {R : Int → List Int} (h : Rdy No w b n R) (hm : n ≤ m) : Rdy No w b m R := by
  obtain ⟨D, ⟨es, clock, q1, q2, q3, q4, q5, q6, q7⟩, hs, hR⟩ := h
  exact ⟨D, ⟨es, clock, q1, q2, Nat.le_trans q3 hm, q4, q5, fun x hx zs h => Nat.le_trans (q6 x hx zs h) hm, q7⟩, hs, hR⟩
theorem Rdy.reno {No No' : Nat → Prop} {w : World} {b n : Nat} {R : Int → List Int} (h : Rdy No w b n R) (hn : ∀ g, No' g → No g ∨ w.heap.size ≤ g) : Rdy No' w b n R := by
  obtain ⟨D, ho, hs, hR⟩ := h
  exact ⟨D, ho, hs.reno ho hn, hR⟩

/-- A look at a key, and the way back. -/
theorem Rdy.look {No : Nat → Prop} {w : World} {b n : Nat} {R : Int → List Int} (h : Rdy No w b n R) (hn : n < maxLen) (k : Int) (hk : (Lit.int .i64 k).wf = true) :
    ∃ v, (Instr.lookup 67 (.map (some b)) (.int .i64 k) false).run Try.prog w = .ok v w ∧ w.ownsInts (b + 1) 3 .i64 v (R k) ∧ (R k).length ≤ n ∧ (∀ g, v.ownBlock = some g → ¬ No g) ∧
      ∀ w1 v' zs', w.grownBy w1 v.ownBlock → w1.ownsInts (b + 1) 3 .i64 v' zs' → zs'.length ≤ n + 1 → (v'.ownBlock = v.ownBlock ∨ ∃ g, v'.ownBlock = some g ∧ w.heap.size ≤ g) → (∀ g, v'.ownBlock = some g → ¬ No g) →
        ∃ w2, (Instr.mapUpdate 67 (.map (some b)) (.int .i64 k) v').run Try.prog w1 = .ok () w2 ∧ Rdy No w2 b (n + 1) (fun j => if j = k then zs' else R j) ∧ w1.grownBy w2 (some b) := by
  obtain ⟨D, ho, hs, hR⟩ := h
  obtain ⟨v, zs, hrun, hat, hoi, hlen, hback⟩ := ho.at law3 Try.underlying67 (zero22 w) hn (key3 hk)
  have hz : zs = R k := by rw [← hR k hk, hat, items_row hoi]
  subst hz
  have hno : ∀ g, v.ownBlock = some g → ¬ No g := by
    obtain ⟨es, clock, hb, F, _⟩ := ho
    rcases Maps.fit_look false law3 Try.underlying67 (zero22 w) hb F (key3 hk) with ⟨hrun', _, _⟩ | ⟨e0, y, hm0, _, hrun', _, _, _⟩
    · rw [hrun] at hrun'
      obtain rfl : v = .slice none 0 0 := by simpa using hrun'
      intro g hg'
      cases hg'
    · rw [hrun] at hrun'
      obtain rfl : v = e0.val := by simpa using hrun'
      exact fun g hg' => hs es clock hb e0 hm0 g hg'
  refine ⟨v, hrun, hoi, hlen, hno, fun w1 v' zs' hg hown hl hloc hno' => ?_⟩
  obtain ⟨w2, r0, r1, r2⟩ := hback w1 v' zs' hg hown hl hloc
  refine ⟨w2, r0, ⟨_, r1, ?_, fun j hj => ?_⟩, r2⟩
  · obtain ⟨es, clock, hb, F, hsz, _, hbb, _⟩ := ho
    have hblt : b < w.heap.size := (Array.getElem?_eq_some_iff.1 hb).1
    have hb1 : w1.heap[b]? = some (.map es clock) := (hg.block b hblt (fun e1 => by have := (hoi.1.lt b e1.symm).1; omega)).trans hb
    obtain ⟨es', clock', hb2, hwho⟩ := stored_who law3 Try.underlying67 hb1 F (Nat.lt_of_le_of_lt hsz hn) (key3 hk) r0
    intro es2 clock2 hb2' y hy g hyg
    obtain ⟨rfl, rfl⟩ : es' = es2 ∧ clock' = clock2 := by rw [hb2] at hb2'; simpa using hb2'
    rcases hwho y hy with ⟨hy0, _⟩ | ⟨_, hval⟩
    · exact hs es clock hb y hy0 g hyg
    · exact hno' g (hval ▸ hyg)
  · show items _ = (if j = k then zs' else R j)
    by_cases hjk : j = k
    · subst hjk
      have hD : IsMap D := by obtain ⟨es, clock, _, _, _, hD, _⟩ := ho; exact ⟨_, hD⟩
      rw [if_pos rfl, atKey_put_same hD (law3.key (key3 hk))]
      exact items_row hown
    · rw [if_neg hjk, atKey_put_other (fun e => hjk (by injection e))]
      exact hR j hj

theorem one_key {l : List MapEntry} (h : l.Pairwise (fun x y => x.key ≠ y.key)) {x y : MapEntry} (hx : x ∈ l) (hy : y ∈ l) (e : x.key = y.key) : x = y := by
  induction l with
  | nil => cases hx
  | cons a l ih =>
    rw [List.pairwise_cons] at h
    rcases List.mem_cons.1 hx with q1 | q1 <;> rcases List.mem_cons.1 hy with q2 | q2
    · rw [q1, q2]
    · exact absurd (q1 ▸ e) (h.1 y q2)
    · exact absurd (q2 ▸ e).symm (h.1 x q1)
    · exact ih h.2 q1 q2
/-- A look hangs on the map's block alone. -/
theorem Rdy.far {No : Nat → Prop} {w w' : World} {b n : Nat} {R : Int → List Int} (h : Rdy No w b n R) {k : Int} (hk : (Lit.int .i64 k).wf = true) {v : Value} (hl : (Instr.lookup 67 (.map (some b)) (.int .i64 k) false).run Try.prog w = .ok v w) (hb' : w'.heap[b]? = w.heap[b]?) :
    (Instr.lookup 67 (.map (some b)) (.int .i64 k) false).run Try.prog w' = .ok v w' := by
  obtain ⟨D, ⟨es, clock, hb, F, _⟩, _⟩ := h
  have hp := ((stamped_iff es clock).1 F.stamped).2.2
  rcases Maps.fit_look false law3 Try.underlying67 (zero22 w) hb F (key3 hk) with ⟨r1, n1, _⟩ | ⟨e0, y, m0, k0, r1, _⟩ <;>
    rcases Maps.fit_look false law3 Try.underlying67 (zero22 w') (hb'.trans hb) F (key3 hk) with ⟨r2, n2, _⟩ | ⟨e1, y1, m1, k1, r2, _⟩
  · rw [hl] at r1
    injection r1 with r1 _
    rw [r2, r1]
  · exact absurd k1 (n1 e1 m1)
  · exact absurd k0 (n2 e0 m0)
  · rw [hl] at r1
    injection r1 with r1 _
    rw [r2, r1, one_key hp m0 m1 (k0.trans k1.symm)]

/-- What a call leaves as it was: all blocks of No's. -/
structure Keep (No : Nat → Prop) (w w' : World) : Prop where
  os : w'.os = w.os
  tape : w'.tape = w.tape
  output : w'.output = w.output
  size : w.heap.size ≤ w'.heap.size
  block : ∀ g, g < w.heap.size → No g → w'.heap[g]? = w.heap[g]?
theorem Keep.refl (No : Nat → Prop) (w : World) : Keep No w w := ⟨rfl, rfl, rfl, Nat.le_refl _, fun _ _ _ => rfl⟩
theorem Keep.drew {No : Nat → Prop} {w w' : World} (h : Keep No w w') : Keep No w w'.drew := ⟨h.os, h.tape, h.output, h.size, h.block⟩
theorem Keep.trans {No : Nat → Prop} {w w1 w2 : World} (h : Keep No w w1) (k : Keep No w1 w2) : Keep No w w2 :=
  ⟨k.os.trans h.os, k.tape.trans h.tape, k.output.trans h.output, Nat.le_trans h.size k.size, fun g hg hn => (k.block g (Nat.lt_of_lt_of_le hg h.size) hn).trans (h.block g hg hn)⟩
theorem Keep.grown {No : Nat → Prop} {w w1 w2 : World} {row : Option Nat} (h : Keep No w w1) (k : w1.grownBy w2 row) (hr : ∀ g, row = some g → ¬ No g) : Keep No w w2 :=
  h.trans ⟨k.os, k.tape, k.output, k.size, fun g hg hn => k.block g hg (fun e => hr g e.symm hn)⟩
theorem Keep.alloc {No : Nat → Prop} {w w1 : World} (h : Keep No w w1) (o : Obj) : Keep No w (w1.alloc o) := h.grown (World.grownBy_alloc w1 o none) (by simp)
theorem Keep.sub {No No' : Nat → Prop} {w w' : World} (h : Keep No w w') (hn : ∀ g, No' g → No g) : Keep No' w w' := ⟨h.os, h.tape, h.output, h.size, fun g hg q => h.block g hg (hn g q)⟩
theorem Keep.below {N : Nat} {No : Nat → Prop} {w w' : World} (h : Keep No w w') (hN : N ≤ w.heap.size) (hn : ∀ g, g < N → No g) : Below N w w' :=
  ⟨h.os, h.tape, h.output, h.size, fun g hg => h.block g (by omega) (hn g hg)⟩
theorem gset (w : World) (b i : Nat) (v : Value) : w.grownBy (w.setCell ⟨b, i, none⟩ v) (some b) :=
  ⟨rfl, rfl, rfl, by simp [World.setCell], fun k _ hk => Below.heap_setCell _ _ _ _ (fun e => hk (by simp [e]))⟩
theorem gdrew (w : World) (row : Option Nat) : w.grownBy w.drew row := ⟨rfl, rfl, rfl, Nat.le_refl _, fun _ _ _ => rfl⟩

/-- The heap as plain data: the limit, the cells in use, the cells of all blocks; the blocks; what lies ready. -/
structure St where
  lim : Int
  live : Int
  laid : Int
  bl : List (Int × Bool)
  R : Int → List Int
def bcells (l : List (Int × Bool)) : List Value := l.flatMap fun p => [.int .i64 p.1, .bool p.2]
theorem bcells_len (l : List (Int × Bool)) : (bcells l).length = l.length * 2 := by
  induction l with
  | nil => rfl
  | cons p l ih => simp [bcells] at ih ⊢; omega
theorem bcells_app (l m : List (Int × Bool)) : bcells (l ++ m) = bcells l ++ bcells m := by simp [bcells]
theorem bcells_get (l : List (Int × Bool)) (i : Nat) (h : i < l.length) : (bcells l)[i * 2]? = some (.int .i64 (l[i]'h).1) ∧ (bcells l)[i * 2 + 1]? = some (.bool (l[i]'h).2) := by
  induction l generalizing i with
  | nil => simp at h
  | cons p l ih =>
    cases i with
    | zero => simp [bcells]
    | succ i =>
      have := ih i (by simpa using h)
      simp only [bcells, List.flatMap_cons, List.getElem_cons_succ] at this ⊢
      rw [show (i + 1) * 2 = i * 2 + 2 by omega]
      simpa using this
theorem bcells_set (l : List (Int × Bool)) (i : Nat) (h : i < l.length) (t : Bool) : (bcells l).set (i * 2 + 1) (.bool t) = bcells (l.set i ((l[i]'h).1, t)) := by
  induction l generalizing i with
  | nil => simp at h
  | cons p l ih =>
    cases i with
    | zero => simp [bcells]
    | succ i =>
      have := ih i (by simpa using h)
      simp only [bcells, List.flatMap_cons, List.getElem_cons_succ, List.set_cons_succ] at this ⊢
      rw [show (i + 1) * 2 + 1 = i * 2 + 1 + 2 by omega]
      simpa using this

/-- The heap lies at block S, its map at block b. -/
structure Hp (No : Nat → Prop) (w : World) (S b c : Nat) (vb : Value) (s : St) : Prop where
  str : w.heap[S]? = some (.cells #[.int .i64 s.lim, .int .i64 s.live, .int .i64 s.laid, vb, .map (some b)] 70 (0, 0))
  row : w.ownsRow 0 72 2 vb s.bl.length (bcells s.bl)
  rdy : Rdy No w b c s.R
  len : s.bl.length ≤ c
  noS : ¬ No S
  nob : ¬ No b
  nov : ∀ g, vb.ownBlock = some g → ¬ No g
  nos : ∀ g, No g → g < w.heap.size

theorem Hp.drew {No : Nat → Prop} {w : World} {S b c : Nat} {vb : Value} {s : St} (h : Hp No w S b c vb s) : Hp No w.drew S b c vb s := ⟨h.str, h.row, h.rdy.drew, h.len, h.noS, h.nob, h.nov, h.nos⟩
theorem Hp.reno {No No' : Nat → Prop} {w : World} {S b c : Nat} {vb : Value} {s : St} (h : Hp No w S b c vb s) (hn : ∀ g, No' g → No g ∨ (g < w.heap.size ∧ ¬ (g = S ∨ g = b ∨ vb.ownBlock = some g ∨ ∃ es clock, w.heap[b]? = some (.map es clock) ∧ ∃ x ∈ es.toList, x.val.ownBlock = some g))) : Hp No' w S b c vb s := by
  refine ⟨h.str, h.row, ?_, h.len, fun q => ?_, fun q => ?_, fun g hg q => ?_, fun g q => ?_⟩
  · obtain ⟨D, ho, hs, hR⟩ := h.rdy
    refine ⟨D, ho, fun es clock hb x hx g hg q => ?_, hR⟩
    rcases hn g q with q | ⟨_, q⟩
    · exact hs es clock hb x hx g hg q
    · exact q (.inr (.inr (.inr ⟨es, clock, hb, x, hx, hg⟩)))
  · rcases hn S q with q | ⟨_, q⟩
    · exact h.noS q
    · exact q (.inl rfl)
  · rcases hn b q with q | ⟨_, q⟩
    · exact h.nob q
    · exact q (.inr (.inl rfl))
  · rcases hn g q with q | ⟨_, q⟩
    · exact h.nov g hg q
    · exact q (.inr (.inr (.inl hg)))
  · rcases hn g q with q | ⟨q, _⟩
    · exact h.nos g q
    · exact q
/-- A block that was just made is none of the heap's. -/
theorem Hp.made {No : Nat → Prop} {w : World} {S b c : Nat} {vb : Value} {s : St} (h : Hp No w S b c vb s) (o : Obj) : Hp (fun g => No g ∨ g = w.heap.size) (w.alloc o) S b c vb s := by
  have lS : S < w.heap.size := (Array.getElem?_eq_some_iff.1 h.str).1
  obtain ⟨es, clock, hb⟩ := h.rdy.block
  have lb : b < w.heap.size := (Array.getElem?_eq_some_iff.1 hb).1
  have hr : Rdy (fun g => No g ∨ g = w.heap.size) w b c s.R := h.rdy.reno (fun g q => q.imp id (fun q => by omega))
  refine ⟨((World.grownBy_alloc w o none).block S lS (by simp)).trans h.str, h.row.alloc o, hr.alloc o, h.len, fun q => ?_, fun q => ?_, fun g hg q => ?_, fun g q => ?_⟩
  · rcases q with q | q
    · exact h.noS q
    · omega
  · rcases q with q | q
    · exact h.nob q
    · omega
  · rcases q with q | q
    · exact h.nov g hg q
    · have := (h.row.lt g hg).2; omega
  · rcases q with q | q
    · have := h.nos g q; simp; omega
    · simp; omega
theorem Hp.more {No : Nat → Prop} {w : World} {S b c c' : Nat} {vb : Value} {s : St} (h : Hp No w S b c vb s) (hc : c ≤ c') : Hp No w S b c' vb s := ⟨h.str, h.row, h.rdy.more hc, Nat.le_trans h.len hc, h.noS, h.nob, h.nov, h.nos⟩
/-- Over whatever leaves all but No's as it was. -/
theorem Hp.keeps {No : Nat → Prop} {w w' : World} {S b c : Nat} {vb : Value} {s : St} (h : Hp No w S b c vb s) {g : Nat} (hg : w.grownBy w' (some g)) (hn : No g) : Hp No w' S b c vb s := by
  have lS : S < w.heap.size := (Array.getElem?_eq_some_iff.1 h.str).1
  have neS : some S ≠ some g := fun e => h.noS (by injection e with e; rw [e]; exact hn)
  have neb : some b ≠ some g := fun e => h.nob (by injection e with e; rw [e]; exact hn)
  obtain ⟨D, ho, hs, hR⟩ := h.rdy
  have hlt : b < w.heap.size := by obtain ⟨es, clock, q, _⟩ := ho; exact (Array.getElem?_eq_some_iff.1 q).1
  refine ⟨(hg.block S lS neS).trans h.str, h.row.kept hg (.inr fun e => h.nov g e hn), ⟨D, ho.kept hg neb (hs.rowsOff (fun j e => by cases e; exact hn)), hs.kept hg hlt neb, hR⟩, h.len, h.noS, h.nob, h.nov, fun g q => Nat.lt_of_lt_of_le (h.nos g q) hg.size⟩
theorem Hp.alloc {No : Nat → Prop} {w : World} {S b c : Nat} {vb : Value} {s : St} (h : Hp No w S b c vb s) (o : Obj) : Hp No (w.alloc o) S b c vb s := by
  have lS : S < w.heap.size := (Array.getElem?_eq_some_iff.1 h.str).1
  exact ⟨((World.grownBy_alloc w o none).block S lS (by simp)).trans h.str, h.row.alloc o, h.rdy.alloc o, h.len, h.noS, h.nob, h.nov, fun g q => by have := h.nos g q; simp; omega⟩
end Go.Proofs.Yteknjkofmkigoab.H

/- The walk of the statement's script. -/
import Derived.Test.YtpmmploedkbeoaaGreatDoorCg23
import Derived.Test.YtpmmploedkbeoaaGreatDoorCg21
import Derived.Test.YtpmmploedkbeoaaGreatDoorCg17
namespace Go.Proofs.YtpmmploedkbeoaaGreatDoor
open Go.RowKit

def cell25 (bt g1 g2 : Nat) : Array Value := #[.int .i64 12, .string ⟨#[]⟩, .slice (some ⟨bt, 0, none⟩) 1 1, .int .i64 0, .int .i64 0, .int .i64 8, .string ⟨#[]⟩, .slice (some ⟨g1, 0, none⟩) 2 2, .int .i64 0, .int .i64 0, .int .i64 9, .string ⟨#[]⟩, .slice (some ⟨g2, 0, none⟩) 3 3, .int .i64 0, .int .i64 0, .int .i64 12, .string ⟨#[]⟩, .slice (some ⟨bt, 0, none⟩) 1 1, .int .i64 0, .int .i64 0, .int .i64 13, .string ⟨#[]⟩, .slice (some ⟨bt, 0, none⟩) 1 1, .int .i64 0, .int .i64 0]
theorem row_below {w w' : World} {base : Nat} {e : TypeId} {size : Nat} {v : Value} {n : Nat} {xs : List Value} (h : w.ownsRow base e size v n xs) (k : Below w.heap.size w w') : w'.ownsRow base e size v n xs := by
  refine ⟨h.1, h.2.imp id ?_⟩
  rintro ⟨g, cap, cur, e1, e2, e3, e4⟩
  exact ⟨g, cap, cur, e1, e2, (k.block g (Array.getElem?_eq_some_iff.1 e3).1).trans e3, e4⟩
/-- The append of a pair's operations, at an operation of a region. -/
theorem step_script {ops : Array Oper} {o : Oper} {ac : Act} {K : Act → World → Prop} {Q : Exit → Act → World → Prop} {E : Prop} {w wr X : World} {B i bt g1 g2 : Nat} {P : Nat → V × V} {l : List Opv} {v : Value} (hgd : o.guard = none) (s y : Operand)
    (ho : o.op = .call { callee := .builtin .append, args := #[s, y], argTypes := #[27, 27] }) (hty : o.type = 27) (hs : ac.eval s = v) (hy : ∃ b, ac.eval y = .slice (some ⟨b, 0, none⟩) 5 5 ∧ b = X.heap.size)
    (h : SI w B P i l v bt wr) (hX : Below wr.heap.size wr X) (hi : i ≤ 150) (cs : Array Value) (hcs : cs = cell25 bt g1 g2)
    (q1 : Rq X wr.heap.size (.slice (some ⟨g1, 0, none⟩) 2 2) [tab1, (P i).1]) (q2 : Rq X wr.heap.size (.slice (some ⟨g2, 0, none⟩) 3 3) [tab1, (P i).1, (P i).2])
    (hK : ∀ G c w', SI w B P (i + 1) (l ++ five bt g1 g2) (.slice (some ⟨G, 0, none⟩) (l ++ five bt g1 g2).length c) bt w' → K (ac.put o.dst (.slice (some ⟨G, 0, none⟩) (l ++ five bt g1 g2).length c)) w') :
    if Region.wanted o (yielded ops ac.tmps) = true then Oper.wp Tryz.prog o ac (X.alloc (.cells cs 48)) K Q else E := by
  subst hcs
  obtain ⟨b, hb, rfl⟩ := hy
  have hrow : X.ownsRow B 48 5 v l.length (opCs l) := row_below h.row hX
  obtain ⟨G, c, w', hr, h2, h3, h4⟩ := ops_app hrow (Nat.le_trans h.le.2 hX.size) (five bt g1 g2) rfl (by have := h.len; omega) (cell25 bt g1 g2) rfl
  have hw : Region.wanted o (yielded ops ac.tmps) = true := by simp [Region.wanted, hgd]
  rw [if_pos hw]
  unfold Oper.wp execOp
  simp only [ho, hty, resolve, invoke, builtin, Sem.run_bind, Sem.run_pure, Result.andThen_ok, List.map_toArray, List.map_cons, List.map_nil, hs, hb, hr]
  exact hK G c w' (h.next hX q1 q2 h2 h3 h4)
/-- What the script is. -/
structure ScP (w : World) (n : Nat) (P : Nat → V × V) (e : Ending) (w' : World) : Prop where
  ex : ∃ l a c B bt, e = .returned (.slice a l.length c) ∧ SI w B P n l (.slice a l.length c) bt w'
set_option maxRecDepth 20000 in
set_option maxHeartbeats 8000000 in
theorem script_any {w : World} {ad : Option Addr} {n cp : Nat} {P : Nat → V × V} (hP : Pin w ad n P) (hn : n ≤ 120) :
    Calls Tryz.prog 7 #[.slice ad n cp] w (ScP w n P) := by
  have C1 := tab9 1 w
  have HP : Hid (Pin w ad n P) := hP
  unfold vl at C1
  clear hP
  go_enter Tryz.func7, Tryz.ntmps7
  go_wp2_with fail
  refine C1.mono ?_; rintro e w1 ⟨rfl, b1'⟩
  have HI : Hid (SI w (w1.heap.size + 1) P 0 [⟨7, ⟨#[]⟩, none, 0, 0, 0, 0⟩] (.slice (some ⟨w1.heap.size + 1, 0, none⟩) ([⟨7, ⟨#[]⟩, none, 0, 0, 0, 0⟩] : List Opv).length 1) w1.heap.size ((w1.alloc (.cells #[.int .i64 4, .int .i64 1, .string ⟨#[]⟩] 37)).alloc (.cells #[.int .i64 7, .string ⟨#[]⟩, .slice none 0 0, .int .i64 0, .int .i64 0] 48))) := by
    have hz : (w1.alloc (.cells #[.int .i64 4, .int .i64 1, .string ⟨#[]⟩] 37)).heap.size = w1.heap.size + 1 := by simp
    have hx : Bx (w1.alloc (.cells #[.int .i64 4, .int .i64 1, .string ⟨#[]⟩] 37)) w1.heap.size tab1 := Bx.made w1 tab1
    have hc := (MapKept.heap_alloc (w1.alloc (.cells #[.int .i64 4, .int .i64 1, .string ⟨#[]⟩] 37)) (.cells #[.int .i64 7, .string ⟨#[]⟩, .slice none 0 0, .int .i64 0, .int .i64 0] 48)).1
    rw [hz] at hc
    have bb := b2 w1 (.cells #[.int .i64 4, .int .i64 1, .string ⟨#[]⟩] 37) (.cells #[.int .i64 7, .string ⟨#[]⟩, .slice none 0 0, .int .i64 0, .int .i64 0] 48)
    refine ⟨rfl, ⟨rfl, .inr ⟨_, 1, _, rfl, Nat.le_refl _, hc, Nat.le_refl _, by decide, rfl, rfl⟩⟩, rfl, fun j o e => by simp at e, fun j o g off e => by simp at e, ⟨hx.below (b1 _ _), b1'.size, Nat.lt_succ_self _⟩, bthen b1' b1'.size bb, ⟨by have := b1'.size; omega, by rw [World.size_alloc, hz]; omega⟩⟩
  obtain ⟨bt, hbt⟩ : ∃ bt, w1.heap.size = bt := ⟨_, rfl⟩
  rw [hbt] at HI
  clear C1 b1'
  go_wp2_with fail
  go_loopw [4, 5] (fun v iw wr => ∃ (i : Nat) (l : List Opv) (a : Option Addr) (c : Nat), iw = .int .i64 (i : Nat) ∧ i ≤ n ∧ v = .slice a l.length c ∧ Hid (SI w (bt + 1) P i l (.slice a l.length c) bt wr)) (fun _ iw _ => n - (intOf iw).toNat)
  case atStart => exact ⟨0, [⟨7, ⟨#[]⟩, none, 0, 0, 0, 0⟩], some ⟨bt + 1, 0, none⟩, 1, rfl, by omega, by first | rfl | (rw [← hbt]; rfl), HI⟩
  case round =>
    clear HI
    obtain ⟨i, l, a, c, rfl, hi, rfl, HI⟩ := hrel
    by_cases hlt : i < n
    · have hlt' : (i : Int) < (n : Int) := by omega
      have wi : IntKind.i64.wrap ((i : Int) + 1) = (i : Int) + 1 := by rw [IntKind.wrap_i64]; omega
      obtain ⟨lb, off, rfl, hl, _⟩ := HP.out.at' i hlt
      have HS : Hid (∀ W, Below w.heap.size w W → W.cell? ⟨lb, off + i * 6, none⟩ = some (.int .i64 (P i).1.1) ∧ W.cell? ⟨lb, off + i * 6 + 1, none⟩ = some (.int .i64 (P i).1.2.1) ∧ W.cell? ⟨lb, off + i * 6 + 2, none⟩ = some (.string (P i).1.2.2) ∧ W.cell? ⟨lb, off + i * 6 + 3, none⟩ = some (.int .i64 (P i).2.1) ∧ W.cell? ⟨lb, off + i * 6 + 4, none⟩ = some (.int .i64 (P i).2.2.1) ∧ W.cell? ⟨lb, off + i * 6 + 5, none⟩ = some (.string (P i).2.2.2)) := fun W k => by
        obtain ⟨lb2, off2, e2, _, z⟩ := (HP.out.below k).at' i hlt
        cases e2
        exact z
      have HN : Hid (Below wr.heap.size wr wr.drew) := bdrN wr 1
      have HT : Hid (∀ v l, Rq wr wr.heap.size v l → Rq wr.drew wr.heap.size v l) := fun v l q => q.below (bdrN wr 1)
      have HW : Hid (∀ W, Below wr.heap.size wr W → Below w.heap.size w W) := fun W k => bthen HI.out.bl HI.out.bl.size k
      clear hl
      go_wp2_with fail
      go_region_held3 (fun W => W.cell? ⟨lb, off + i * 6, none⟩ = some (.int .i64 (P i).1.1) ∧ W.cell? ⟨lb, off + i * 6 + 1, none⟩ = some (.int .i64 (P i).1.2.1) ∧ W.cell? ⟨lb, off + i * 6 + 2, none⟩ = some (.string (P i).1.2.2) ∧ W.cell? ⟨lb, off + i * 6 + 3, none⟩ = some (.int .i64 (P i).2.1) ∧ W.cell? ⟨lb, off + i * 6 + 4, none⟩ = some (.int .i64 (P i).2.2.1) ∧ W.cell? ⟨lb, off + i * 6 + 5, none⟩ = some (.string (P i).2.2.2))
        (first | exact HS.out _ HE.out.bl | exact HS.out _ (HW.out _ HN.out) | exact HS.out _ (HW.out _ (bthen HN.out HN.out.size (b1 _ _))) | exact HS.out _ (HW.out _ (bthen HN.out HN.out.size (b2 _ _ _))) | exact HS.out _ (HW.out _ (bthen (bthen HN.out HN.out.size (b2 _ _ _)) (bthen HN.out HN.out.size (b2 _ _ _)).size (b1 _ _))) | go_keep)
        (first
          | (go_at_call 9; refine (tab9 1 _).mono ?_; unfold vl; rintro e W ⟨rfl, hb⟩; have HLo : Hid (wr.heap.size ≤ _) := HN.out.size; have HT : Hid (∀ v l, Rq _ wr.heap.size v l → Rq W wr.heap.size v l) := fun v l q => q.below hb; have HN : Hid (Below wr.heap.size wr W) := (by first | exact bthen HN.out HN.out.size hb | exact bthen (bthen HN.out HN.out.size (b1 _ _)) (bthen HN.out HN.out.size (b1 _ _)).size hb); clear hb)
          | (refine step_script (by rfl) _ _ (by rfl) (by rfl) (by rfl) ⟨_, rfl, by first | rfl | simp⟩ HI.out (by first | exact bthen HN.out HN.out.size (b1 _ _) | exact bthen HN.out HN.out.size (b2 _ _ _)) (by omega) _ rfl (by first | exact (HT.out _ _ ((rq2 _ tab1 (P i).1).low HLo.out)).below (b1 _ _) | exact ((rq2 _ tab1 (P i).1).low HN.out.size).below (b1 _ _) | exact (by have z := (rq2 (W.alloc (.cells #[.int .i64 4, .int .i64 1, .string ⟨#[]⟩, .int .i64 (P i).1.1, .int .i64 (P i).1.2.1, .string (P i).1.2.2, .int .i64 (P i).2.1, .int .i64 (P i).2.2.1, .string (P i).2.2.2] 37)) tab1 (P i).1).low (B' := wr.heap.size) (by rw [World.size_alloc]; have := HN.out.size; omega); rw [World.size_alloc] at z; exact z)) (by first | exact (rq3 _ tab1 (P i).1 (P i).2).low HN.out.size | exact ((rq3 _ tab1 (P i).1 (P i).2).low HN.out.size).below (b1 _ _) | exact (by have z := (rq3 (W.alloc (.cells #[.int .i64 4, .int .i64 1, .string ⟨#[]⟩, .int .i64 (P i).1.1, .int .i64 (P i).1.2.1, .string (P i).1.2.2] 37)) tab1 (P i).1 (P i).2).low (B' := wr.heap.size) (by rw [World.size_alloc]; have := HN.out.size; omega); rw [World.size_alloc] at z; exact z)) ?_; intro G c2 w5 hE; have HE : Hid (SI w (bt + 1) P (i + 1) _ _ bt w5) := hE; clear hE))
      all_goals
        go_wp2
        go_roundw
        case rel => exact ⟨i + 1, _, _, _, by go_num, by omega, by rw [List.length_append], HE⟩
        case measure => first | omega | (simp only [intOf]; omega) | (simp; omega)
    · have e0 : i = n := by omega
      subst e0
      have hlt' : ¬ (i : Int) < (i : Int) := by omega
      go_wp2_with fail
      go_ret
      exact ⟨_, _, _, _, _, rfl, HI.out⟩
end Go.Proofs.YtpmmploedkbeoaaGreatDoor

/- The pairs of a table against who is present; what a Set may answer (no program in it). -/
namespace Go.Proofs.YtpmmploedkbeoaaGreatDoor
open Go.RowKit

theorem lsF_snoc2 (p : Pa) : ∀ f i : Nat, lsF p (f + 1) i = lsF p f i ++ (if (prO p ((i + f : Nat) : Int)).2.1 ≠ 0 then [prO p ((i + f : Nat) : Int)] else [])
  | 0, i => by
    rw [lsF, lsF, lsF]
    simp
  | f + 1, i => by
    rw [lsF, lsF_snoc2 p f (i + 1), lsF, show i + 1 + f = i + (f + 1) by omega]
    split
    · rfl
    · rfl
theorem prO_slot {p : Pa} {m : Nat} (h : m < p.n) : prO p ((1 + m : Nat) : Int) = (kn ((m : Int) + 1), p.F m) := by
  unfold prO
  rw [if_neg (by omega), if_pos (by omega), show ((1 + m : Nat) : Int) = (m : Int) + 1 by omega, show ((m : Int) + 1).toNat - 1 = m by omega]
theorem prO_node {p : Pa} {m : Nat} (h : m < p.z) : prO p ((1 + (p.n + m) : Nat) : Int) = (p.g.K m, p.g.X m) := by
  unfold prO
  rw [if_neg (by omega), if_neg (by omega), if_pos (by omega), show ((1 + (p.n + m) : Nat) : Int).toNat - p.n - 1 = m by omega]
theorem ls_slots (p : Pa) : ∀ m, m ≤ p.n → (lsF p m 1).map (·.1) = kA p.F m
  | 0, _ => rfl
  | m + 1, h => by
    rw [lsF_snoc2, List.map_append, ls_slots p m (by omega), prO_slot (by omega), kA]
    congr 1
    by_cases q : (p.F m).1 = 0
    · rw [if_neg (by simpa using q), if_pos q]; rfl
    · rw [if_pos (by simpa using q), if_neg q]; rfl
theorem ls_nodes (p : Pa) : ∀ m, m ≤ p.z → (lsF p (p.n + m) 1).map (·.1) = kA p.F p.n ++ kH p.g m
  | 0, _ => by rw [Nat.add_zero, ls_slots p p.n (Nat.le_refl _), kH, List.append_nil]
  | m + 1, h => by
    rw [← Nat.add_assoc, lsF_snoc2, List.map_append, ls_nodes p m (by omega), prO_node (by omega), kH, List.append_assoc]
    congr 2
    by_cases q : (p.g.X m).1 = 0
    · rw [if_neg (by simpa using q), if_pos q]; rfl
    · rw [if_pos (by simpa using q), if_neg q]; rfl
/-- The pairs' keys are who is present. -/
theorem wl_pres (p : Pa) : (wl p).map (·.1) = pres p := ls_nodes p p.z (Nat.le_refl _)
theorem wl_len (p : Pa) : (wl p).length = (pres p).length := by rw [← wl_pres, List.length_map]
theorem wl_get {p : Pa} (h : TI p) {x : V × V} (hx : x ∈ wl p) : pget p x.1 = x.2 ∧ x.2.1 ≠ 0 := by
  obtain ⟨j, h1, h2, h3, rfl⟩ := lsF_mem.1 hx
  by_cases q : j ≤ p.n
  · obtain ⟨m, rfl⟩ : ∃ m, j = 1 + m := ⟨j - 1, by omega⟩
    rw [prO_slot (by omega)] at h3 ⊢
    exact ⟨h.get_slot (by omega), h3⟩
  · obtain ⟨m, rfl⟩ : ∃ m, j = 1 + (p.n + m) := ⟨j - 1 - p.n, by omega⟩
    rw [prO_node (by omega)] at h3 ⊢
    exact ⟨h.get_node (by omega) (h.live (by omega) h3).1, h3⟩
theorem put_e {z : Nat} {g : G} {k v : V} (hk : fm k = true) (hv : fm v = true) (hk0 : k.1 ≠ 0) : (put z g k v).2.2 = 0 ∨ (put z g k v).2.2 = 12 := by
  rw [put, if_pos ⟨hk, hv⟩, if_neg hk0]
  split
  · first | (right; rfl) | (split <;> first | (left; rfl) | (right; rfl))
  · split
    · left; rfl
    · split
      · left; rfl
      · rename_i x _ _ _ _
        show full _ = 0 ∨ full _ = 12
        unfold full
        split
        · left; rfl
        · right; rfl
theorem set_one {t : TS} {s : H.St} {k v : V} (hk : fm k = true) (hv : fm v = true) (hk0 : k.1 ≠ 0) (he : (pset t.p k v).2.2 ≠ 12) : tset t s k v = (one t k v, s, 0) := by
  unfold tset
  rw [if_neg (fun q => q ⟨hk, hv⟩), if_neg hk0, if_pos he]
  have e0 : (pset t.p k v).2.2 = 0 := by
    unfold pset at he ⊢
    by_cases hA : inA t.p.n k
    · rw [if_pos hA]
    · rw [if_neg hA] at he ⊢
      exact (put_e hk hv hk0).resolve_right he
  rw [e0]
/-- What is true of the machine's table as long as the script runs. -/
structure Pi (t : TS) (s : H.St) (m : Nat) : Prop where
  tb : TB t s 4
  lm : s.lim = 400000
  sm : Sm t m
theorem Pi.set {t : TS} {s : H.St} {m : Nat} {k v : V} (h : Pi t s m) (hm : m ≤ 500) (ti : TI t.p) (iv : H.Inv 0 s) (hr : Rng k) (ti' : TI (tset t s k v).1.p) : Pi (tset t s k v).1 (tset t s k v).2.1 (m + 1) := by
  have q := h.tb.set iv k v
  exact ⟨q.1, by rw [q.2]; exact h.lm, h.sm.set hm ti hr ti'⟩
theorem Pi.more {t : TS} {s : H.St} {m m' : Nat} (h : Pi t s m) (hm : m ≤ m') : Pi t s m' := ⟨h.tb, h.lm, h.sm.n, h.sm.z, Nat.le_trans h.sm.pr hm⟩
/-- What a Set answers: a value that isn't in form, the key Nil, else no error. -/
theorem Pi.err {t : TS} {s : H.St} {m : Nat} {k v : V} (h : Pi t s m) (ti : TI t.p) (iv : H.Inv 0 s) (hr : Rng k) : (tset t s k v).2.2 = if ¬ (fm k = true ∧ fm v = true) then 2 else if k.1 = 0 then 9 else 0 := by
  by_cases h1 : fm k = true ∧ fm v = true
  · rw [if_neg (fun q => q h1)]
    by_cases h0 : k.1 = 0
    · rw [if_pos h0]; unfold tset; rw [if_neg (fun q => q h1), if_pos h0]
    · rw [if_neg h0]
      by_cases he : (pset t.p k v).2.2 = 12
      · exact due_ok ti hr ((due_iff ti hr).2 ⟨h1.1, h1.2, h0, he⟩) h.tb iv h.lm h.sm.n h.sm.z
      · rw [set_one h1.1 h1.2 h0 he]
  · rw [if_pos h1]; unfold tset; rw [if_pos h1]
/-- Sizes change at a Set of a new key alone, and then they fit. -/
theorem Pi.sizes {t : TS} {s : H.St} {k v : V} (ti : TI t.p) (hr : Rng k) (ti' : TI (tset t s k v).1.p) (hne : ¬ ((tset t s k v).1.p.n = t.p.n ∧ (tset t s k v).1.p.z = t.p.z)) :
    (tset t s k v).2.2 = 0 ∧ pget t.p k = nil ∧ v.1 ≠ 0 ∧ Fits (pres (tset t s k v).1.p) (tset t s k v).1.p.n (tset t s k v).1.p.z := by
  by_cases hd : Due t.p k v ∧ (tset t s k v).2.2 = 0
  · obtain ⟨q1, q2, q3, q4⟩ := (due_iff ti hr).1 hd.1
    exact ⟨hd.2, (ti.full ⟨q1, q3, hr.1, hr.2⟩ q4).2.2.2.2.2.1, hd.1.2.2.1, (set_due ti hr hd.1 hd.2 ti').1⟩
  · exact absurd (set_same ti hr hd) hne
/-- Behind a Set of a value there is a slot or a node. -/
theorem set_some {t : TS} {s : H.St} {k v : V} (ti : TI t.p) (hr : Rng k) (ti' : TI (tset t s k v).1.p) (he : (tset t s k v).2.2 = 0) (hv : v.1 ≠ 0) : (tset t s k v).1.p.n + (tset t s k v).1.p.z ≠ 0 := fun q => by
  obtain ⟨h1, _, h2, _⟩ := (tset_map (s := s) (v := v) ti hr).1 he
  have hm : k ∈ pres (tset t s k v).1.p := ti'.mem_pres.2 ⟨h1, by rw [h2]; exact hv⟩
  have e1 : (tset t s k v).1.p.n = 0 := by omega
  have e2 : (tset t s k v).1.p.z = 0 := by omega
  unfold pres at hm
  rw [e1, e2] at hm
  cases hm
end Go.Proofs.YtpmmploedkbeoaaGreatDoor

/- The script's states, pair by pair (no program in it). -/
namespace Go.Proofs.YtpmmploedkbeoaaGreatDoor
open Go.RowKit

/-- Behind the Index of a pair, its answer; behind its Store, its error. -/
def t2F (t : TS) (k : V) : TS := if kn1 1 k then { t with pr := t.pr + (prd t.p k : Nat) } else t
def t3F (t : TS) (s : H.St) (k v : V) : TS × H.St := if kn1 1 k && kn1 1 v then ((tset (t2F t k) s k v).1, (tset (t2F t k) s k v).2.1) else (t2F t k, s)
def gotF (t : TS) (k : V) : List V × Int := if kn1 1 k then ([pget t.p k], 0) else ([], 2)
def errF (t : TS) (s : H.St) (k v : V) : Int := if kn1 1 k && kn1 1 v then (tset (t2F t k) s k v).2.2 else 2
def stL (t : TS) : List V := [kn (t.p.n : Nat), kn (t.p.z : Nat), kn (t.p.g.f : Nat), kn t.hint, kn t.pr]
theorem t2F_p (t : TS) (k : V) : (t2F t k).p = t.p := by unfold t2F; split <;> rfl
theorem op12 (F : Nat → V) (t : TS) (s : H.St) : opF 12 F t s = ((stL t, 0), t, s) := by
  unfold opF; rw [if_neg (by decide), if_neg (by decide), if_pos rfl]; rfl
theorem op13 (F : Nat → V) (t : TS) (s : H.St) : opF 13 F t s = ((prl t.p, 0), t, s) := by
  unfold opF; rw [if_neg (by decide), if_neg (by decide), if_neg (by decide)]
theorem op8 (F : Nat → V) (t : TS) (s : H.St) : opF 8 F t s = (gotF t (F 1), t2F t (F 1), s) := by
  unfold opF gotF t2F; rw [if_pos rfl]; split <;> rfl
theorem op9 (F : Nat → V) (t t1 : TS) (s : H.St) (h : t1 = t2F t (F 1)) : opF 9 F t1 s = (([], errF t s (F 1) (F 2)), (t3F t s (F 1) (F 2)).1, (t3F t s (F 1) (F 2)).2) := by
  subst h
  unfold opF errF t3F; rw [if_neg (by decide), if_pos rfl]; split <;> rfl
theorem kd0 (i : Nat) : kdS (5 * i) = 12 := by unfold kdS; rw [if_pos (by omega)]
theorem kd1 (i : Nat) : kdS (5 * i + 1) = 8 := by unfold kdS; rw [if_neg (by omega), if_pos (by omega)]
theorem kd2 (i : Nat) : kdS (5 * i + 2) = 9 := by unfold kdS; rw [if_neg (by omega), if_neg (by omega), if_pos (by omega)]
theorem kd3 (i : Nat) : kdS (5 * i + 3) = 12 := by unfold kdS; rw [if_neg (by omega), if_neg (by omega), if_neg (by omega), if_pos (by omega)]
theorem kd4 (i : Nat) : kdS (5 * i + 4) = 13 := by unfold kdS; rw [if_neg (by omega), if_neg (by omega), if_neg (by omega), if_neg (by omega)]
theorem fs1 (P : Nat → V × V) (i r : Nat) (h : r < 5) : fsS P (5 * i + r) 1 = (P i).1 := by
  show (P ((5 * i + r) / 5)).1 = _
  rw [show (5 * i + r) / 5 = i by omega]
theorem fs2 (P : Nat → V × V) (i r : Nat) (h : r < 5) : fsS P (5 * i + r) 2 = (P i).2 := by
  show (P ((5 * i + r) / 5)).2 = _
  rw [show (5 * i + r) / 5 = i by omega]
/-- A pair's five operations: the state behind them, their replies. -/
structure P5 (P : Nat → V × V) (t0 : TS) (s0 : H.St) (i : Nat) (t : TS) (s : H.St) : Prop where
  a1 : stA kdS (fsS P) t0 s0 (5 * i + 1) = (t, s)
  a2 : stA kdS (fsS P) t0 s0 (5 * i + 2) = (t2F t (P i).1, s)
  a3 : stA kdS (fsS P) t0 s0 (5 * i + 3) = t3F t s (P i).1 (P i).2
  a4 : stA kdS (fsS P) t0 s0 (5 * i + 4) = t3F t s (P i).1 (P i).2
  a5 : stA kdS (fsS P) t0 s0 (5 * (i + 1)) = t3F t s (P i).1 (P i).2
  r1 : rpA kdS (fsS P) t0 s0 (1 + 5 * i) = (stL t, 0)
  r2 : rpA kdS (fsS P) t0 s0 (2 + 5 * i) = gotF t (P i).1
  r3 : rpA kdS (fsS P) t0 s0 (3 + 5 * i) = ([], errF t s (P i).1 (P i).2)
  r4 : rpA kdS (fsS P) t0 s0 (4 + 5 * i) = (stL (t3F t s (P i).1 (P i).2).1, 0)
  r5 : rpA kdS (fsS P) t0 s0 (5 + 5 * i) = (prl (t3F t s (P i).1 (P i).2).1.p, 0)
theorem p5_of (P : Nat → V × V) (t0 : TS) (s0 : H.St) (i : Nat) : P5 P t0 s0 i (stA kdS (fsS P) t0 s0 (5 * i)).1 (stA kdS (fsS P) t0 s0 (5 * i)).2 := by
  obtain ⟨t, s, e⟩ : ∃ t s, stA kdS (fsS P) t0 s0 (5 * i) = (t, s) := ⟨_, _, rfl⟩
  rw [e]
  show P5 P t0 s0 i t s
  have a1 : stA kdS (fsS P) t0 s0 (5 * i + 1) = (t, s) := by rw [stA, kd0, e, op12]
  have a2 : stA kdS (fsS P) t0 s0 (5 * i + 2) = (t2F t (P i).1, s) := by rw [stA, kd1, a1, op8, fs1 P i 1 (by omega)]
  have q3 : opF 9 (fsS P (5 * i + 2)) (t2F t (P i).1) s = (([], errF t s (P i).1 (P i).2), (t3F t s (P i).1 (P i).2).1, (t3F t s (P i).1 (P i).2).2) := by
    rw [op9 _ t _ s (by rw [fs1 P i 2 (by omega)]), fs1 P i 2 (by omega), fs2 P i 2 (by omega)]
  have a3 : stA kdS (fsS P) t0 s0 (5 * i + 3) = t3F t s (P i).1 (P i).2 := by rw [stA, kd2, a2]; show (opF 9 (fsS P (5 * i + 2)) (t2F t (P i).1) s).2 = _; rw [q3]
  have a4 : stA kdS (fsS P) t0 s0 (5 * i + 4) = t3F t s (P i).1 (P i).2 := by rw [stA, kd3, a3, op12]
  have a5 : stA kdS (fsS P) t0 s0 (5 * (i + 1)) = t3F t s (P i).1 (P i).2 := by rw [show 5 * (i + 1) = 5 * i + 4 + 1 by omega, stA, kd4, a4, op13]
  refine ⟨a1, a2, a3, a4, a5, ?_, ?_, ?_, ?_, ?_⟩
  · rw [show 1 + 5 * i = 5 * i + 1 by omega, rpA, kd0, e, op12]
  · rw [show 2 + 5 * i = 5 * i + 1 + 1 by omega, rpA, kd1, a1, op8, fs1 P i 1 (by omega)]
  · rw [show 3 + 5 * i = 5 * i + 2 + 1 by omega, rpA, kd2, a2]; show (opF 9 (fsS P (5 * i + 2)) (t2F t (P i).1) s).1 = _; rw [q3]
  · rw [show 4 + 5 * i = 5 * i + 3 + 1 by omega, rpA, kd3, a3, op12]
  · rw [show 5 + 5 * i = 5 * i + 4 + 1 by omega, rpA, kd4, a4, op13]
theorem pset_rd2 {p : Pa} (h : TI p) (k v : V) : (pset p k v).2.1 ≤ p.z ∧ (inA p.n k → (pset p k v).2.1 = 0) := by
  unfold pset
  by_cases q : inA p.n k
  · rw [if_pos q]; exact ⟨Nat.zero_le _, fun _ => rfl⟩
  · rw [if_neg q]; exact ⟨put_rd h.inv h.rt, fun z => absurd z q⟩
theorem prd_rd2 {p : Pa} (h : TI p) (k : V) : prd p k ≤ p.z ∧ (inA p.n k → prd p k = 0) := by
  unfold prd
  by_cases q : inA p.n k
  · rw [if_pos q]; exact ⟨Nat.zero_le _, fun _ => rfl⟩
  · rw [if_neg q]; exact ⟨fnd_le h.inv h.rt, fun z => absurd z q⟩
theorem reh_pr (t : TS) (s : H.St) (k : V) : (reh t s k).1.pr = t.pr := by
  unfold reh
  split
  · rfl
  · split <;> rfl
theorem set_reads {t : TS} {s : H.St} {k v : V} (h : TI t.p) : ∃ r : Nat, (tset t s k v).1.pr = t.pr + (r : Nat) ∧ r ≤ t.p.z ∧ (inA t.p.n k → r = 0) := by
  have e0 : ∀ x : Int, x = t.pr → ∃ r : Nat, x = t.pr + (r : Nat) ∧ r ≤ t.p.z ∧ (inA t.p.n k → r = 0) := fun x e => ⟨0, by simp [e], Nat.zero_le _, fun _ => rfl⟩
  have e1 : ∀ x : Int, x = t.pr + ((pset t.p k v).2.1 : Nat) → ∃ r : Nat, x = t.pr + (r : Nat) ∧ r ≤ t.p.z ∧ (inA t.p.n k → r = 0) := fun x e => ⟨_, e, pset_rd2 h k v⟩
  unfold tset
  split
  · exact e0 _ rfl
  · split
    · exact e0 _ rfl
    · split
      · exact e1 _ rfl
      · split
        · exact e1 _ (by rw [reh_pr]; rfl)
        · exact e1 _ (by show (reh _ _ _).1.pr = _; rw [reh_pr]; rfl)
end Go.Proofs.YtpmmploedkbeoaaGreatDoor

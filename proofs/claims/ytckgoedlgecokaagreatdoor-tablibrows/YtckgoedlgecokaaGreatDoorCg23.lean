/- The walk of row: a table with the list's values. -/
import Derived.Test.YtckgoedlgecokaaGreatDoorCg22
namespace Go.Proofs.YtckgoedlgecokaaGreatDoor
open Go.RowKit
theorem TT.frame2 {No : Nat → Prop} {w w' : World} {T A b a S hb c : Nat} {t : TS} {s : H.St} (h : TT No w T A b a S hb c t s) (hos : w'.os = w.os) (ht : w'.tape = w.tape) (ho : w'.output = w.output) (hs : w.heap.size ≤ w'.heap.size) (hk : ∀ g, g < w.heap.size → ¬ No g → w'.heap[g]? = w.heap[g]?) :
    TT (fun g => No g ∨ (w.heap.size ≤ g ∧ g < w'.heap.size)) w' T A b a S hb c t s := by
  obtain ⟨vb, hp⟩ := h.hp
  have l1 := h.tm.pm.ltA
  have l2 := h.tm.pm.ltB
  have l3 := h.tm.pm.pt.lta
  have l4 := h.tm.pm.pt.ltb
  have k : Keep (fun g => ¬ No g) w w' := ⟨hos, ht, ho, hs, hk⟩
  refine ⟨h.tm.kept k h.nT h.nA h.nb h.na, ⟨vb, Hp.sub (Hp.frame2 hp hos ht ho hs (fun g hg hn => hk g hg (fun q => hn (.inl q)))) (fun g q => ?_)⟩, fun q => q.elim h.nT (by omega), fun q => q.elim h.nA (by omega), fun q => q.elim h.nb (by omega), fun q => q.elim h.na (by omega), h.ti, h.iv, h.p0, h.p1⟩
  rcases q with (q | q) | q
  · exact .inl (.inl q)
  · exact .inr q
  · exact .inl (.inr q)

theorem Tw.frame {No : Nat → Prop} {w w' : World} {T S hb c : Nat} {a : Int} {K : Nat} {f : Int → V} (h : Tw No w T S hb c a K f) {row : Option Nat} (k : w.grownBy w' row) (hr : ∀ g, row = some g → No g) : Tw (fun g => No g ∨ (w.heap.size ≤ g ∧ g < w'.heap.size)) w' T S hb c a K f := by
  obtain ⟨A, b, g, t, s, h1, h2⟩ := h.ex
  exact ⟨A, b, g, t, s, h1.frame2 k.os k.tape k.output k.size (fun q hq hn => k.block q hq fun e => hn (hr q e.symm)), h2⟩
def gvB (v : V) : Bool := fm v && decide (v.1 ≠ 0)
/-- The values that come in. -/
def rwl (F : Nat → V) : Nat → List V
  | 0 => []
  | k + 1 => if gvB (F k) = true then rwl F k ++ [F k] else rwl F k
theorem rwl_gl (F : Nat → V) : ∀ k, Gl (rwl F k)
  | 0 => fun v hv => by cases hv
  | k + 1 => fun v hv => by
    unfold rwl at hv
    split at hv
    · rename_i q
      rcases List.mem_append.1 hv with h | h
      · exact rwl_gl F k v h
      · rw [List.mem_singleton.1 h]
        simp only [gvB, Bool.and_eq_true, decide_eq_true_eq] at q
        exact q
    · exact rwl_gl F k v hv
theorem chk_fm (v : V) : (chk v.1 v.2.1 v.2.2 = 0 ↔ fm v = true) := by
  show (if fm v = true then (0 : Int) else 2) = 0 ↔ fm v = true
  split
  · rename_i q; exact ⟨fun _ => q, fun _ => rfl⟩
  · rename_i q; exact ⟨fun z => absurd z (by decide), fun z => absurd z q⟩
/-- What row's loop keeps: the table and the list hold l. -/
structure RI (w : World) (T S hb K : Nat) (v : Value) (l : List V) (wx : World) : Prop where
  tw : ∃ No : Nat → Prop, Tw No wx T S hb (10 + 137 * l.length) 1 K (rowf l) ∧ (∀ g, g < w.heap.size → No g) ∧ ∀ q, v.ownBlock = some q → No q
  lv : Lv wx w.heap.size v l.length fun i => l.getD i nil
  bl : Below w.heap.size w wx
theorem RI.below {w wx wy : World} {T S hb K : Nat} {v : Value} {l : List V} (h : RI w T S hb K v l wx) (k : Below wx.heap.size wx wy) : RI w T S hb K v l wy := by
  obtain ⟨No, h1, h2, h3⟩ := h.tw
  exact ⟨⟨No, h1.below k, h2, h3⟩, h.lv.below k, h.bl.trans (k.mono h.bl.size)⟩
theorem getD_snoc (l : List V) (x : V) : upd (fun i => l.getD i nil) l.length x = fun i => (l ++ [x]).getD i nil := by
  funext i
  unfold upd
  by_cases h : i = l.length
  · subst h; rw [if_pos rfl]; simp [List.getD_eq_getElem?_getD]
  · rw [if_neg h]
    simp only [List.getD_eq_getElem?_getD]
    by_cases q : i < l.length
    · rw [List.getElem?_append_left q]
    · rw [List.getElem?_eq_none (by omega), List.getElem?_eq_none (by rw [List.length_append]; simp only [List.length_singleton]; omega)]
theorem RI.app {w wx : World} {T S hb K : Nat} {v : Value} {l : List V} (h : RI w T S hb K v l wx) (x : V) (hl : l.length ≤ 200) :
    ∃ g c w', (Builtin.append_ #[22, 22] 22 #[v, .slice (some ⟨wx.heap.size, 0, none⟩) 1 1]).run Tryz.prog (wx.alloc (.cells #[.int .i64 x.1, .int .i64 x.2.1, .string x.2.2] 24)) = .ok (.slice (some ⟨g, 0, none⟩) (l.length + 1) c) w' ∧
      (∃ No : Nat → Prop, Tw No w' T S hb (10 + 137 * l.length) 1 K (rowf l) ∧ (∀ q, q < w.heap.size → No q) ∧ No g) ∧ Lv w' w.heap.size (.slice (some ⟨g, 0, none⟩) (l.length + 1) c) (l.length + 1) (fun i => (l ++ [x]).getD i nil) ∧ Below w.heap.size w w' := by
  have b5 := b1 wx (.cells #[.int .i64 x.1, .int .i64 x.2.1, .string x.2.2] 24)
  have X5 : Bx (wx.alloc (.cells #[.int .i64 x.1, .int .i64 x.2.1, .string x.2.2] 24)) wx.heap.size x := Bx.made wx x
  have h5 := h.below b5
  have hz := h.bl.size
  have hz5 := h5.bl.size
  obtain ⟨g, c, w6, hr, l6, g6, at6, lt6⟩ := h5.lv.app x X5 (by omega) hz5
  obtain ⟨No, t1, t2, t3⟩ := h5.tw
  have f6 := t1.frame g6 t3
  rw [getD_snoc] at l6
  refine ⟨g, c, w6, hr, ⟨_, f6, fun q hq => .inl (t2 q hq), ?_⟩, l6, h5.bl.trans ⟨g6.os, g6.tape, g6.output, g6.size, fun y hy => g6.block y (by omega) (fun e => ?_)⟩⟩
  · rcases at6 with e | e
    · exact .inl (t3 g e)
    · exact .inr ⟨by omega, lt6⟩
  · have := (h5.lv.own.lt y e.symm).1
    omega
/-- A list of values that came in. -/
structure Vin (w : World) (a : Option Addr) (L : Nat) (F : Nat → V) : Prop where
  at' : ∀ i, i < L → ∃ lb off, a = some ⟨lb, off, none⟩ ∧ lb < w.heap.size ∧ w.cell? ⟨lb, off + i * 3, none⟩ = some (.int .i64 (F i).1) ∧ w.cell? ⟨lb, off + i * 3 + 1, none⟩ = some (.int .i64 (F i).2.1) ∧ w.cell? ⟨lb, off + i * 3 + 2, none⟩ = some (.string (F i).2.2)
theorem Vin.below {w w' : World} {a : Option Addr} {L : Nat} {F : Nat → V} (h : Vin w a L F) (k : Below w.heap.size w w') : Vin w' a L F := ⟨fun i hi => by
  obtain ⟨lb, off, e, hl, c0, c1, c2⟩ := h.at' i hi
  exact ⟨lb, off, e, Nat.lt_of_lt_of_le hl k.size, by rw [k.cell (by exact hl)]; exact c0, by rw [k.cell (by exact hl)]; exact c1, by rw [k.cell (by exact hl)]; exact c2⟩⟩
theorem Vin.none (w : World) (F : Nat → V) : Vin w none 0 F := ⟨fun _ hi => absurd hi (Nat.not_lt_zero _)⟩
theorem Vin.of {w : World} {B : Nat} {a : Option Addr} {L c : Nat} {F : Nat → V} (h : Lv w B (.slice a L c) L F) : Vin w a L F := ⟨fun i hi => by
  obtain ⟨g, cc, eq, _, lq, _, u0, u1, u2⟩ := h.at hi
  injection eq with eq1 eq2 eq3
  exact ⟨g, 0, eq1, lq, by rw [Nat.zero_add]; exact u0, by rw [Nat.zero_add]; exact u1, by rw [Nat.zero_add]; exact u2⟩⟩
/-- The row: no more than a hundred of them. -/
def rwq (F : Nat → V) : Nat → List V
  | 0 => []
  | k + 1 => if gvB (F k) = true ∧ (rwq F k).length < 100 then rwq F k ++ [F k] else rwq F k
theorem rwq_len (F : Nat → V) : ∀ k, (rwq F k).length ≤ 100
  | 0 => Nat.zero_le _
  | k + 1 => by
    have := rwq_len F k
    unfold rwq
    split
    · rw [List.length_append]; simp only [List.length_singleton]; omega
    · exact this
theorem rwq_gl (F : Nat → V) : ∀ k, Gl (rwq F k)
  | 0 => fun v hv => by cases hv
  | k + 1 => fun v hv => by
    unfold rwq at hv
    split at hv
    · rename_i q
      rcases List.mem_append.1 hv with h | h
      · exact rwq_gl F k v h
      · rw [List.mem_singleton.1 h]
        have q1 := q.1
        simp only [gvB, Bool.and_eq_true, decide_eq_true_eq] at q1
        exact q1
    · exact rwq_gl F k v hv
theorem rwl_rwq (F : Nat → V) : ∀ k, (rwl F k).length ≤ 100 → rwq F k = rwl F k
  | 0, _ => rfl
  | k + 1, h => by
    unfold rwl at h
    unfold rwq rwl
    by_cases q : gvB (F k) = true
    · rw [if_pos q] at h ⊢
      rw [List.length_append] at h
      simp only [List.length_singleton] at h
      have e := rwl_rwq F k (by omega)
      rw [e, if_pos ⟨q, by omega⟩]
    · rw [if_neg q] at h ⊢
      rw [if_neg (fun z => q z.1)]
      exact rwl_rwq F k h
theorem rwq_stop (F : Nat → V) {k : Nat} (h : (rwq F k).length = 100) : ∀ n, rwq F (k + n) = rwq F k
  | 0 => rfl
  | n + 1 => by
    have e := rwq_stop F h n
    have e2 : rwq F (k + n + 1) = if gvB (F (k + n)) = true ∧ (rwq F (k + n)).length < 100 then rwq F (k + n) ++ [F (k + n)] else rwq F (k + n) := rfl
    show rwq F (k + n + 1) = _
    rw [e2, e, if_neg (fun z => by omega)]
theorem rwq_end {F : Nat → V} {k L : Nat} (hk : k ≤ L) (h1 : (rwl F k).length ≤ 100) (h2 : k = L ∨ (rwl F k).length = 100) : rwq F L = rwl F k := by
  have e := rwl_rwq F k h1
  rcases h2 with rfl | h2
  · exact e
  · rw [← e] at h2 ⊢
    have := rwq_stop F h2 (L - k)
    rwa [show k + (L - k) = L by omega] at this
/-- What row answers and leaves. -/
structure RwP (w : World) (L : Nat) (F : Nat → V) (e : Ending) (w' : World) : Prop where
  ex : ∃ T v, e = .returned (.tuple #[tp T, v, .bool true]) ∧ RI w T (w.heap.size + 1) w.heap.size 200 v (rwq F L) w'
set_option maxRecDepth 20000 in
set_option maxHeartbeats 4000000 in
theorem row_walk {w : World} {ad : Option Addr} {cap L : Nat} {F : Nat → V} (hl : Vin w ad L F) (hL : L ≤ 9223372036854775807) : Calls Tryz.prog 10 #[.slice ad L cap] w (RwP w L F) := by
  have C1 := H.new_walk w 400000 (by omega) (by omega)
  have hp := new_hp w 400000 (fun g => g < w.heap.size) (fun g q => q)
  have B1 := b2 w (.map #[] 0) (.cells #[.int .i64 400000, .int .i64 0, .int .i64 0, .slice none 0 0, .map (some w.heap.size)] 78)
  obtain ⟨W1, hW1⟩ : ∃ W1, (w.alloc (.map #[] 0)).alloc (.cells #[.int .i64 400000, .int .i64 0, .int .i64 0, .slice none 0 0, .map (some w.heap.size)] 78) = W1 := ⟨_, rfl⟩
  rw [hW1] at hp B1 C1
  have C2 := new_row hp (by omega) 200 (by omega) (by omega) (by omega)
  clear hp hW1
  go_enter Tryz.func10, Tryz.ntmps10
  go_wp2_with fail
  refine C1.mono ?_
  rintro e w1 ⟨rfl, rfl⟩
  clear C1
  go_wp2_with fail
  refine C2.mono ?_
  rintro e w2 ⟨T, rfl, t2, k2⟩
  have HI : Hid (RI w T (w.heap.size + 1) w.heap.size 200 (.slice none 0 0) [] w2) := ⟨⟨_, t2.more (by omega), fun g q => q, fun q e => by cases e⟩, Lv.nil _ _ _, B1.trans (k2.below B1.size fun g q => q)⟩
  have HL : Hid (Vin w ad L F) := hl
  clear C2 t2 k2 B1 hl
  go_wp2
  go_loopw [9, 10] (fun v iv wx => ∃ k a cq, iv = .int .i64 (k : Nat) ∧ k ≤ L ∧ v = .slice a (rwl F k).length cq ∧ (rwl F k).length ≤ 100 ∧ Hid (RI w T (w.heap.size + 1) w.heap.size 200 (.slice a (rwl F k).length cq) (rwl F k) wx)) (fun _ iv _ => L - (intOf iv).toNat)
  case atStart => exact ⟨0, none, 0, rfl, by omega, rfl, by show (0 : Nat) ≤ 100; omega, HI⟩
  case round =>
    clear HI
    obtain ⟨k, a, cq, rfl, hk, rfl, h100, HI⟩ := hrel
    obtain ⟨l, hlk⟩ : ∃ l, rwl F k = l := ⟨_, rfl⟩
    have HLK : Hid (rwl F k = l) := hlk
    rw [hlk] at h100 HI ⊢
    clear hlk
    by_cases hlt : k < L ∧ l.length < 100
    · obtain ⟨hk1, hl1⟩ := hlt
      have q1 : (k : Int) < (L : Int) := by omega
      have q2 : (l.length : Int) < 100 := by omega
      have wk : IntKind.i64.wrap ((k : Int) + 1) = (k : Int) + 1 := by rw [IntKind.wrap_i64]; omega
      have hms : L - (k + 1) < L - k := by omega
      obtain ⟨q, off, rfl, lq, u0, u1, u2⟩ := HL.out.at' k hk1
      obtain ⟨x, hx⟩ : ∃ x, F k = x := ⟨_, rfl⟩
      rw [hx] at u0 u1 u2
      have m0 := (HI.out.bl.cell (p := ⟨q, off + k * 3, none⟩) lq).trans u0
      have m1 := (HI.out.bl.cell (p := ⟨q, off + k * 3 + 1, none⟩) lq).trans u1
      have m2 := (HI.out.bl.cell (p := ⟨q, off + k * 3 + 2, none⟩) lq).trans u2
      have HX : Hid (rwl F (k + 1) = if gvB x = true then l ++ [x] else l) := by
        show rwl F (k + 1) = _
        rw [rwl, hx, HLK.out]
      have C := rcheck_any x.1 x.2.1 x.2.2 wr
      have n0 := ((HI.out.below (b1 wr (vb x.1 x.2.1 x.2.2))).bl.cell (p := ⟨q, off + k * 3, none⟩) lq).trans u0
      have n1 := ((HI.out.below (b1 wr (vb x.1 x.2.1 x.2.2))).bl.cell (p := ⟨q, off + k * 3 + 1, none⟩) lq).trans u1
      have n2 := ((HI.out.below (b1 wr (vb x.1 x.2.1 x.2.2))).bl.cell (p := ⟨q, off + k * 3 + 2, none⟩) lq).trans u2
      have HI1 : Hid (RI w T (w.heap.size + 1) w.heap.size 200 (.slice a l.length cq) l (wr.alloc (vb x.1 x.2.1 x.2.2))) := HI.out.below (b1 _ _)
      have HU : Hid (∀ W, Below w.heap.size w W → W.cell? ⟨q, off + k * 3, none⟩ = some (.int .i64 x.1) ∧ W.cell? ⟨q, off + k * 3 + 1, none⟩ = some (.int .i64 x.2.1) ∧ W.cell? ⟨q, off + k * 3 + 2, none⟩ = some (.string x.2.2)) := fun W b => ⟨(b.cell (p := ⟨q, off + k * 3, none⟩) lq).trans u0, (b.cell (p := ⟨q, off + k * 3 + 1, none⟩) lq).trans u1, (b.cell (p := ⟨q, off + k * 3 + 2, none⟩) lq).trans u2⟩
      clear hx HI lq u0 u1 u2
      by_cases hf : fm x = true
      · have hch : chk x.1 x.2.1 x.2.2 = 0 := (chk_fm x).2 hf
        rw [hch] at C
        by_cases h0 : x.1 = 0
        · have HN : Hid (rwl F (k + 1) = l) := by show _ = _; rw [HX.out, if_neg (by simp [gvB, h0])]
          have h0' : (x.1 != 0) = false := by simpa using h0
          have hx2 : ∃ y : V, y = (x.1, x.2.1, x.2.2) := ⟨_, rfl⟩
          clear h0 hx2 hch hf HX HU
          unfold vl at C
          unfold vb at C HI1 n0 n1 n2
          go_wp2_with fail
          refine C.mono ?_
          rintro e w3 ⟨rfl, rfl⟩
          clear C
          go_wp2
          go_roundw
          case rel => exact ⟨k + 1, a, cq, by go_num, by omega, by rw [HN.out], by rw [HN.out]; exact h100, by rw [HN.out]; exact HI1⟩
          case measure => first | omega | (simp only [intOf]; omega) | (simp; omega)
        · have h0' : (x.1 != 0) = true := by simpa using h0
          have HN : Hid (rwl F (k + 1) = l ++ [x]) := by show _ = _; rw [HX.out, if_pos (by simp [gvB, h0, hf])]
          obtain ⟨g, c2, w4, hr, ⟨No, t4, t5, t6⟩, l4, b4⟩ := HI1.out.app x (by omega)
          have C2 := append_row t4 (by rw [← HLK.out]; exact rwl_gl F k) (by omega) (by omega) (by omega) x ⟨hf, h0⟩
          have HQ : Hid ((∀ q, q < w.heap.size → No q) ∧ No g ∧ Lv w4 w.heap.size (.slice (some ⟨g, 0, none⟩) (l.length + 1) c2) (l.length + 1) (fun i => (l ++ [x]).getD i nil) ∧ Below w.heap.size w w4) := ⟨t5, t6, l4, b4⟩
          have e0 := (HU.out _ b4).1
          have e1 := (HU.out _ b4).2.1
          have e2 := (HU.out _ b4).2.2
          clear t4 t5 t6 l4 b4 HI1
          unfold vl at C
          unfold vb at C hr n0 n1 n2
          simp only [World.size_alloc] at hr
          go_wp2_with fail
          refine C.mono ?_
          rintro e w3 ⟨rfl, rfl⟩
          clear C
          go_wp2_with (at_builtin; refine wp_app rfl _ _ 22 rfl 22 rfl _ _ rfl rfl hr ?_)
          refine C2.mono ?_
          rintro e w5 ⟨rfl, t5, k5⟩
          have HF : Hid (RI w T (w.heap.size + 1) w.heap.size 200 (.slice (some ⟨g, 0, none⟩) (l.length + 1) c2) (l ++ [x]) w5) := ⟨⟨No, by rw [List.length_append]; exact t5.more (by simp only [List.length_singleton]; omega), HQ.out.1, fun y ey => by cases ey; exact HQ.out.2.1⟩, by rw [List.length_append]; exact HQ.out.2.2.1.keep k5 (fun y ey => by cases ey; exact HQ.out.2.1), HQ.out.2.2.2.trans (k5.below HQ.out.2.2.2.size HQ.out.1)⟩
          clear C2 t5 k5 HQ e0 e1 e2 n0 n1 n2 hr HU
          go_wp2
          go_roundw
          case rel => exact ⟨k + 1, some ⟨g, 0, none⟩, c2, by go_num, by omega, by rw [HN.out, List.length_append]; rfl, by rw [HN.out, List.length_append]; simp only [List.length_singleton]; omega, by rw [HN.out, List.length_append]; exact HF⟩
          case measure => first | omega | (simp only [intOf]; omega) | (simp; omega)
      · have hch : chk x.1 x.2.1 x.2.2 = 2 := by show (if fm x = true then (0 : Int) else 2) = 2; rw [if_neg hf]
        rw [hch] at C
        have HN : Hid (rwl F (k + 1) = l) := by show _ = _; rw [HX.out, if_neg (by simp [gvB, hf])]
        unfold vl at C
        unfold vb at C HI1 n0 n1 n2
        go_wp2_with fail
        refine C.mono ?_
        rintro e w3 ⟨rfl, rfl⟩
        clear C
        go_wp2
        go_roundw
        case rel => exact ⟨k + 1, a, cq, by go_num, by omega, by rw [HN.out], by rw [HN.out]; exact h100, by rw [HN.out]; exact HI1⟩
        case measure => first | omega | (simp only [intOf]; omega) | (simp; omega)
    · have HE : Hid (k = L ∨ l.length = 100) := by
        show _ ∨ _
        omega
      have HQ : Hid (rwq F L = l) := by
        show _ = _
        rw [rwq_end hk (by rw [HLK.out]; exact h100) (by rw [HLK.out]; exact HE.out), HLK.out]
      by_cases hk1 : k < L
      · have q1 : (k : Int) < (L : Int) := by omega
        have q2 : ¬ (l.length : Int) < 100 := by omega
        go_wp2
        exact bodyPost_ret (v := .tuple #[tp T, .slice a l.length cq, .bool true]) (by simp [results, Tryz.results10, go_sem]) rfl ⟨T, _, rfl, by rw [HQ.out]; exact HI.out⟩
      · have q1 : ¬ (k : Int) < (L : Int) := by omega
        go_wp2
        exact bodyPost_ret (v := .tuple #[tp T, .slice a l.length cq, .bool true]) (by simp [results, Tryz.results10, go_sem]) rfl ⟨T, _, rfl, by rw [HQ.out]; exact HI.out⟩
end Go.Proofs.YtckgoedlgecokaaGreatDoor

/- The walks of shown and Show: of a number below ten, of a text. -/
namespace Go.Proofs.YtckgoedlgecokaaGreatDoor
open Go.RowKit
theorem ta_yes (t : TypeId) (v : Value) (w : World) (u : TypeDesc) (hu : Tryz.prog.underlying t = some u) (hn : ∀ ms, u ≠ .interface ms) : (Instr.typeAssert (.iface t v) 20 t true).run Tryz.prog w = .ok (.tuple #[v, .bool true]) w := by
  unfold Instr.typeAssert
  cases u <;> simp_all [run_underlying hu, go_sem, Result.andThen]
theorem ta_no (t a : TypeId) (v z : Value) (w : World) (u : TypeDesc) (hu : Tryz.prog.underlying a = some u) (hn : ∀ ms, u ≠ .interface ms) (hz : ∀ w, (zeroValue a).run Tryz.prog w = .ok z w) (h : ¬ t = a) : (Instr.typeAssert (.iface t v) 20 a true).run Tryz.prog w = .ok (.tuple #[z, .bool false]) w := by
  unfold Instr.typeAssert
  cases u <;> simp_all [run_underlying hu, go_sem, Result.andThen]
theorem y133 (v : Value) (w : World) : (Instr.typeAssert (.iface 133 v) 20 133 true).run Tryz.prog w = .ok (.tuple #[v, .bool true]) w := ta_yes 133 v w _ Tryz.underlying133 (by intro ms h; cases h)
theorem y134 (v : Value) (w : World) : (Instr.typeAssert (.iface 134 v) 20 134 true).run Tryz.prog w = .ok (.tuple #[v, .bool true]) w := ta_yes 134 v w _ Tryz.underlying134 (by intro ms h; cases h)
theorem n132 (t : TypeId) (h : ¬ t = 132) (v : Value) (w : World) : (Instr.typeAssert (.iface t v) 20 132 true).run Tryz.prog w = .ok (.tuple #[.bool false, .bool false]) w := ta_no t 132 v _ w _ Tryz.underlying132 (by intro ms h; cases h) (fun w => by kernel_rfl) h
theorem n133 (t : TypeId) (h : ¬ t = 133) (v : Value) (w : World) : (Instr.typeAssert (.iface t v) 20 133 true).run Tryz.prog w = .ok (.tuple #[.int .i64 0, .bool false]) w := ta_no t 133 v _ w _ Tryz.underlying133 (by intro ms h; cases h) (fun w => by kernel_rfl) h
/-- A number's digit. -/
def dg1 (i : Nat) : ByteArray := ByteArray.extract ⟨#[48, 49, 50, 51, 52, 53, 54, 55, 56, 57, 97, 98, 99, 100, 101, 102, 103, 104, 105, 106, 107, 108, 109, 110, 111, 112, 113, 114, 115, 116, 117, 118, 119, 120, 121, 122]⟩ i (i + 1)
set_option maxHeartbeats 400000 in
theorem small_any (i : Nat) (hi : i < 10) (w : World) : Calls Tryz.prog 107 #[.int .i64 i] w fun e w' => e = .returned (.string (dg1 i)) ∧ w' = w := by
  have h1 : (i : Int) < 10 := by omega
  have wi : IntKind.i64.wrap ((i : Int) + 1) = (i : Int) + 1 := by rw [IntKind.wrap_i64]; omega
  unfold dg1
  go_enter Tryz.func107, Tryz.ntmps107
  go_wp2
  go_ret
  exact ⟨rfl, rfl⟩
theorem fmt_one (i : Nat) (hi : i < 10) (w : World) : Calls Tryz.prog 77 #[.int .i64 i] w fun e w' => e = .returned (.string (dg1 i)) ∧ w' = w := by
  have C := small_any i hi
  have h0 : ¬ (i : Int) < 0 := by omega
  have h1 : (i : Int) < 100 := by omega
  have h2 : (0 : Int) ≤ (i : Int) := by omega
  obtain ⟨s, hs⟩ : ∃ s, dg1 i = s := ⟨_, rfl⟩
  rw [hs] at C ⊢
  have wi : IntKind.i64.wrap (i : Int) = (i : Int) := by rw [IntKind.wrap_i64]; omega
  have C96 : ∀ w : World, Calls Tryz.prog 96 #[.int .i64 i, .int .i64 10] w fun e w' => e = .returned (.string s) ∧ w' = w := fun w => by
    go_enter Tryz.func96, Tryz.ntmps96
    go_wp2_with (go_at_call 107; refine (C _).mono ?_; rintro e w' ⟨rfl, rfl⟩)
    go_ret
    exact ⟨rfl, rfl⟩
  have C93 : ∀ w : World, Calls Tryz.prog 93 #[.int .i64 i] w fun e w' => e = .returned (.string s) ∧ w' = w := fun w => by
    go_enter Tryz.func93, Tryz.ntmps93
    go_wp2_with (go_at_call 96; refine (C96 _).mono ?_; rintro e w' ⟨rfl, rfl⟩)
    go_ret
    exact ⟨rfl, rfl⟩
  have C88 : ∀ w : World, Calls Tryz.prog 88 #[.int .i64 i] w fun e w' => e = .returned (.string s) ∧ w' = w := fun w => by
    go_enter Tryz.func88, Tryz.ntmps88
    go_wp2_with (go_at_call 93; refine (C93 _).mono ?_; rintro e w' ⟨rfl, rfl⟩)
    go_ret
    exact ⟨rfl, rfl⟩
  go_enter Tryz.func77, Tryz.ntmps77
  go_wp2_with (go_at_call 88; refine (C88 _).mono ?_; rintro e w' ⟨rfl, rfl⟩)
  go_ret
  exact ⟨rfl, rfl⟩
set_option maxRecDepth 20000 in
set_option maxHeartbeats 1000000 in
theorem shown_int (i : Nat) (hi : i < 10) (w : World) : Calls Tryz.prog 33 #[vl 2 i ⟨#[]⟩] w fun e w' => e = .returned (.tuple #[.string (dg1 i), .int .i64 0]) ∧ Below w.heap.size w w' := by
  have CF := fmt_one i hi
  have CC := fun w => check_any 2 i ⟨#[]⟩ w
  rw [show chk 2 i ⟨#[]⟩ = 0 by simp [chk, inF]] at CC
  obtain ⟨s, hs⟩ : ∃ s, dg1 i = s := ⟨_, rfl⟩
  rw [hs] at CF ⊢
  clear hs
  have e1 := n132 133 (by decide)
  have e2 := y133
  have C69 : ∀ w : World, Calls Tryz.prog 69 #[vl 2 i ⟨#[]⟩] w fun e w' => e = .returned (.tuple #[.iface 133 (.int .i64 i), .int .i64 0]) ∧ Below w.heap.size w w' := fun w => by
    unfold vl vb at *
    go_enter Tryz.func69, Tryz.ntmps69
    go_wp2_with (go_at_call 39; refine (CC _).mono ?_; rintro e w' ⟨rfl, rfl⟩)
    go_ret2
    exact ⟨rfl, b2 _ _ _⟩
  have C70 : ∀ w : World, Calls Tryz.prog 70 #[.iface 133 (.int .i64 i)] w fun e w' => e = .returned (.string s) ∧ w' = w := fun w => by
    go_enter Tryz.func70, Tryz.ntmps70
    go_wp2_with (go_at_call 77; refine (CF _).mono ?_; rintro e w' ⟨rfl, rfl⟩)
    go_ret
    exact ⟨rfl, rfl⟩
  have C49 : ∀ w : World, Calls Tryz.prog 49 #[vl 2 i ⟨#[]⟩] w fun e w' => e = .returned (.tuple #[.string s, .int .i64 0]) ∧ Below w.heap.size w w' := fun w => by
    unfold vl vb at *
    go_enter Tryz.func49, Tryz.ntmps49
    go_wp2_with (first | (go_at_call 69; refine (C69 _).mono ?_; rintro e w3 ⟨rfl, hb3⟩) | (go_at_call 70; refine (C70 _).mono ?_; rintro e w4 ⟨rfl, rfl⟩))
    go_ret2
    exact ⟨rfl, bthen (b1 _ _) (by simp) hb3⟩
  clear CF CC e1 e2 C69 C70
  unfold vl at *
  go_enter Tryz.func33, Tryz.ntmps33
  go_wp2_with (go_at_call 49; refine (C49 _).mono ?_; rintro e w3 ⟨rfl, hb3⟩)
  go_ret2
  exact ⟨rfl, bthen (b1 _ _) (by simp) hb3⟩
set_option maxRecDepth 20000 in
set_option maxHeartbeats 1000000 in
theorem shown_str (s : ByteArray) (hs : s.size ≤ 10000) (w : World) : Calls Tryz.prog 33 #[vl 3 0 s] w fun e w' => e = .returned (.tuple #[.string s, .int .i64 0]) ∧ Below w.heap.size w w' := by
  have CC := fun w => check_any 3 0 s w
  rw [show chk 3 0 s = 0 by simp [chk, inF]; omega] at CC
  have e1 := n132 134 (by decide)
  have e2 := n133 134 (by decide)
  have e3 := y134
  clear hs
  have C69 : ∀ w : World, Calls Tryz.prog 69 #[vl 3 0 s] w fun e w' => e = .returned (.tuple #[.iface 134 (.string s), .int .i64 0]) ∧ Below w.heap.size w w' := fun w => by
    unfold vl vb at *
    go_enter Tryz.func69, Tryz.ntmps69
    go_wp2_with (go_at_call 39; refine (CC _).mono ?_; rintro e w' ⟨rfl, rfl⟩)
    go_ret2
    exact ⟨rfl, b2 _ _ _⟩
  have C70 : ∀ w : World, Calls Tryz.prog 70 #[.iface 134 (.string s)] w fun e w' => e = .returned (.string s) ∧ w' = w := fun w => by
    go_enter Tryz.func70, Tryz.ntmps70
    go_wp2
    go_ret
    exact ⟨rfl, rfl⟩
  have C49 : ∀ w : World, Calls Tryz.prog 49 #[vl 3 0 s] w fun e w' => e = .returned (.tuple #[.string s, .int .i64 0]) ∧ Below w.heap.size w w' := fun w => by
    unfold vl vb at *
    go_enter Tryz.func49, Tryz.ntmps49
    go_wp2_with (first | (go_at_call 69; refine (C69 _).mono ?_; rintro e w3 ⟨rfl, hb3⟩) | (go_at_call 70; refine (C70 _).mono ?_; rintro e w4 ⟨rfl, rfl⟩))
    go_ret2
    exact ⟨rfl, bthen (b1 _ _) (by simp) hb3⟩
  clear CC e1 e2 e3 C69 C70
  unfold vl at *
  go_enter Tryz.func33, Tryz.ntmps33
  go_wp2_with (go_at_call 49; refine (C49 _).mono ?_; rintro e w3 ⟨rfl, hb3⟩)
  go_ret2
  exact ⟨rfl, bthen (b1 _ _) (by simp) hb3⟩
end Go.Proofs.YtckgoedlgecokaaGreatDoor

/- TopMap's pure part: the keys and values that the law keeps, against the table. -/
import Derived.Test.YtpmmploedkbeoaaGreatDoorCg25
import Derived.Test.YtpmmploedkbeoaaGreatDoorCg26
import Derived.Test.YtpmmploedkbeoaaGreatDoorCg22
namespace Go.Proofs.YtpmmploedkbeoaaGreatDoor
open Go.RowKit

/-- The keys that the law keeps: each once, each in form; no other key has a value. -/
structure MpT (KL : List V) (p : Pa) : Prop where
  nd : KL.Nodup
  ok : ∀ k, k ∈ KL → KOK k
  out : ∀ k, KOK k → k ∉ KL → pget p k = nil
theorem nd_ix {α : Type} : ∀ {l : List α}, l.Nodup → ∀ {i j : Nat} (hi : i < l.length) (hj : j < l.length), l[i] = l[j] → i = j
  | [], _, i, _, hi, _, _ => absurd hi (Nat.not_lt_zero i)
  | a :: l, h, 0, 0, _, _, _ => rfl
  | a :: l, h, 0, j + 1, _, hj, e => absurd (by have q : a = l[j]'(Nat.lt_of_succ_lt_succ hj) := e; rw [q]; exact List.getElem_mem _) (List.nodup_cons.1 h).1
  | a :: l, h, i + 1, 0, hi, _, e => absurd (by have q : l[i]'(Nat.lt_of_succ_lt_succ hi) = a := e; rw [← q]; exact List.getElem_mem _) (List.nodup_cons.1 h).1
  | a :: l, h, i + 1, j + 1, hi, hj, e => congrArg (· + 1) (nd_ix (List.nodup_cons.1 h).2 (Nat.lt_of_succ_lt_succ hi) (Nat.lt_of_succ_lt_succ hj) e)
theorem MpT.same {KL : List V} {p p' : Pa} (h : MpT KL p) (e : ∀ k, pget p' k = pget p k) : MpT KL p' ∧ KL.map (pget p') = KL.map (pget p) :=
  ⟨⟨h.nd, h.ok, fun k a b => (e k).trans (h.out k a b)⟩, List.map_congr_left fun k _ => e k⟩
theorem MpT.new {KL : List V} {p p' : Pa} (h : MpT KL p) {k v : V} (hk : KOK k) (hn : k ∉ KL) (e1 : pget p' k = v) (e2 : ∀ k', KOK k' → k' ≠ k → pget p' k' = pget p k') :
    MpT (KL ++ [k]) p' ∧ (KL ++ [k]).map (pget p') = KL.map (pget p) ++ [v] := by
  refine ⟨⟨?_, ?_, ?_⟩, ?_⟩
  · rw [List.nodup_append]
    exact ⟨h.nd, by simp, fun a ha b hb e => by
      have : b = k := by simpa using hb
      subst this e
      exact hn ha⟩
  · intro x hx
    rcases List.mem_append.1 hx with q | q
    · exact h.ok x q
    · have : x = k := by simpa using q
      subst this; exact hk
  · intro x hx hm
    have h1 : x ∉ KL := fun q => hm (List.mem_append.2 (.inl q))
    have h2 : x ≠ k := fun q => hm (List.mem_append.2 (.inr (by simp [q])))
    rw [e2 x hx h2]; exact h.out x hx h1
  · rw [List.map_append, List.map_cons, List.map_nil, e1]
    congr 1
    exact List.map_congr_left fun x hx => e2 x (h.ok x hx) (fun e => hn (e ▸ hx))
theorem MpT.old {KL : List V} {p p' : Pa} (h : MpT KL p) {k v : V} {j : Nat} (hj : KL[j]? = some k) (e1 : pget p' k = v) (e2 : ∀ k', KOK k' → k' ≠ k → pget p' k' = pget p k') :
    MpT KL p' ∧ KL.map (pget p') = (KL.map (pget p)).set j v := by
  obtain ⟨hl, he⟩ := List.getElem?_eq_some_iff.1 hj
  have hm : k ∈ KL := he ▸ List.getElem_mem hl
  refine ⟨⟨h.nd, h.ok, fun x hx hn => ?_⟩, ?_⟩
  · rw [e2 x hx (fun e => hn (e ▸ hm))]; exact h.out x hx hn
  · apply List.ext_getElem?
    intro i
    rw [List.getElem?_set, List.getElem?_map, List.length_map]
    by_cases q : j = i
    · subst q
      rw [if_pos rfl, if_pos hl, hj]
      exact congrArg some e1
    · rw [if_neg q, List.getElem?_map]
      by_cases hi : i < KL.length
      · rw [List.getElem?_eq_getElem hi]
        show some _ = some _
        congr 1
        refine e2 _ (h.ok _ (List.getElem_mem hi)) (fun e => q ?_)
        exact nd_ix h.nd hl hi (by rw [he, e])
      · rw [List.getElem?_eq_none (by omega)]; rfl
theorem nil_fm {k : V} (h : fm k = true) (h0 : k.1 = 0) : k = nil := by
  obtain ⟨a, b, c⟩ := k
  obtain rfl : a = 0 := h0
  unfold fm inF at h
  rw [if_pos rfl] at h
  have h' : b = 0 ∧ c.toList = [] := by simpa using h
  have e : c = ⟨#[]⟩ := ByteArray.ext (Array.toList_inj.1 (by have := h'.2; rw [ByteArray.toList_eq] at this; simpa using this))
  rw [h'.1, e]; rfl
theorem pget_nil (p : Pa) : pget p nil = nil := by
  unfold pget
  rw [if_neg (not_inA_nil p.n)]
  unfold mg fnd
  rw [if_pos (.inr (.inr rfl))]
  rfl
/-- What an Index answers. -/
theorem Rd.got {KL : List V} {t : TS} {s : H.St} {k v : V} (h : Rd t s k v) (m : MpT KL t.p) (h0 : (gotF t k).2 = 0) : gotF t k = ([pget t.p k], 0) ∧ (k ∉ KL → pget t.p k = nil) := by
  unfold gotF at h0 ⊢
  by_cases q : kn1 1 k = true
  · rw [if_pos q]
    refine ⟨rfl, fun hn => ?_⟩
    by_cases e : k.1 = 0
    · rw [nil_fm (kn1_fm q) e]; exact pget_nil _
    · exact m.out k ⟨kn1_fm q, e, h.hr.1, h.hr.2⟩ hn
  · rw [if_neg q] at h0; exact absurd h0 (by decide)
theorem got_err (t : TS) (k : V) : (gotF t k).2 = 0 ∨ (gotF t k).2 = 2 := by
  unfold gotF; split
  · exact .inl rfl
  · exact .inr rfl
/-- A Store is a map's. -/
theorem Rd.map {t : TS} {s : H.St} {k v : V} (h : Rd t s k v) :
    (errF t s k v = 0 → KOK k ∧ pget (t3F t s k v).1.p k = v ∧ ∀ k', KOK k' → k' ≠ k → pget (t3F t s k v).1.p k' = pget t.p k') ∧ (errF t s k v ≠ 0 → ∀ k', pget (t3F t s k v).1.p k' = pget t.p k') := by
  have hm := tset_map (t := t2F t k) (s := s) (k := k) (v := v) h.t2.1 h.hr
  rw [t2F_p] at hm
  by_cases q : (kn1 1 k && kn1 1 v) = true
  · have e3 : t3F t s k v = ((tset (t2F t k) s k v).1, (tset (t2F t k) s k v).2.1) := by unfold t3F; rw [if_pos q]
    have eE : errF t s k v = (tset (t2F t k) s k v).2.2 := by unfold errF; rw [if_pos q]
    rw [e3, eE]
    exact ⟨fun e => ⟨(hm.1 e).1, (hm.1 e).2.2.1, (hm.1 e).2.2.2⟩, hm.2⟩
  · have e3 : t3F t s k v = (t2F t k, s) := by unfold t3F; rw [if_neg q]
    have eE : errF t s k v = 2 := by unfold errF; rw [if_neg q]
    rw [e3, eE]
    exact ⟨fun e => absurd e (by decide), fun _ k' => by rw [t2F_p]⟩
theorem Ini.mpt {t : TS} {s : H.St} (h : Ini t s) : MpT [] t.p := by
  refine MpT.mk List.nodup_nil (fun k hk => by cases hk) (fun k hk _ => ?_)
  rw [h.p]
  unfold pget
  rw [if_neg (fun q => by have := q.2.2; show False; have h0 : (fresh 0 0).n = 0 := rfl; rw [h0] at this; omega)]
  unfold mg fnd
  rw [if_pos (.inl rfl)]
  rfl
/-- How many of the kept keys have a value. -/
theorem MpT.count {KL : List V} {p : Pa} (h : MpT KL p) (ti : TI p) : (KL.map (pget p)).countP (fun x => decide (x.1 ≠ 0)) = (wl p).length := by
  rw [wl_len, List.countP_map, List.countP_eq_length_filter]
  have sub1 : ∀ x, x ∈ KL.filter ((fun x : V => decide (x.1 ≠ 0)) ∘ pget p) → x ∈ pres p := fun x hx => by
    obtain ⟨h1, h2⟩ := List.mem_filter.1 hx
    exact ti.mem_pres.2 ⟨h.ok x h1, by simpa using h2⟩
  have sub2 : ∀ x, x ∈ pres p → x ∈ KL.filter ((fun x : V => decide (x.1 ≠ 0)) ∘ pget p) := fun x hx => by
    obtain ⟨h1, h2⟩ := ti.mem_pres.1 hx
    refine List.mem_filter.2 ⟨?_, by simpa using h2⟩
    by_cases q : x ∈ KL
    · exact q
    · rw [h.out x h1 q] at h2; exact absurd rfl h2
  exact Nat.le_antisymm (nd_len (h.nd.filter _) sub1) (nd_len ti.pres_nd sub2)
/-- A kept key that has a value stands among the pairs. -/
theorem MpT.found {KL : List V} {p : Pa} (h : MpT KL p) (ti : TI p) {k : V} (hk : k ∈ KL) (hv : (pget p k).1 ≠ 0) : ∃ m : Nat, (wl p)[m]? = some (k, pget p k) := by
  have hm : k ∈ pres p := ti.mem_pres.2 ⟨h.ok k hk, hv⟩
  rw [← wl_pres] at hm
  obtain ⟨x, hx, rfl⟩ := List.mem_map.1 hm
  obtain ⟨m, hm⟩ := List.getElem?_of_mem hx
  refine ⟨m, hm.trans ?_⟩
  rw [(wl_get ti hx).1]
end Go.Proofs.YtpmmploedkbeoaaGreatDoor

/- TopMap's two lists: a key more, a value changed. -/
namespace Go.Proofs.YtpmmploedkbeoaaGreatDoor
open Go.RowKit

/-- The law's two lists, beside a table. -/
structure MI (w0 wr : World) (kv vv : Value) (KL : List V) (p : Pa) (i : Nat) : Prop where
  bl : Below w0.heap.size w0 wr
  k : Lv wr w0.heap.size kv KL.length (fun j => KL.getD j nil)
  v : Lv wr w0.heap.size vv KL.length (fun j => (KL.map (pget p)).getD j nil)
  ne : ∀ g, kv.ownBlock = some g → vv.ownBlock ≠ some g
  mp : MpT KL p
  len : KL.length ≤ i
theorem MI.below {w0 wr W : World} {kv vv : Value} {KL : List V} {p : Pa} {i : Nat} (h : MI w0 wr kv vv KL p i) (b : Below wr.heap.size wr W) : MI w0 W kv vv KL p i :=
  ⟨bthen h.bl h.bl.size b, h.k.below b, h.v.below b, h.ne, h.mp, h.len⟩
theorem MI.first {w0 wr : World} {p : Pa} (b : Below w0.heap.size w0 wr) (m : MpT [] p) : MI w0 wr (.slice none 0 0) (.slice none 0 0) [] p 0 :=
  ⟨b, Lv.nil _ _ _, Lv.nil _ _ _, fun g h => by simp [Value.ownBlock] at h, m, Nat.le_refl _⟩
theorem Lv.congr {w : World} {B : Nat} {v : Value} {n : Nat} {F F' : Nat → V} (h : Lv w B v n F) (e : ∀ i, i < n → F i = F' i) : Lv w B v n F' := ⟨by rw [← cellsV_congr e]; exact h.own⟩
theorem Lv.own_lt {w : World} {B : Nat} {v : Value} {n g : Nat} {F : Nat → V} (h : Lv w B v n F) (hg : v.ownBlock = some g) : B ≤ g ∧ g < w.heap.size := by
  rcases h.own.2 with ⟨rfl, q⟩ | ⟨g', cap, cur, rfl, h2, h3, h4⟩
  · simp [Value.ownBlock] at hg
  · have : g' = g := by simpa [Value.ownBlock] using hg
    subst this
    exact ⟨h2, (Array.getElem?_eq_some_iff.1 h3).1⟩
theorem MI.same {w0 wr : World} {kv vv : Value} {KL : List V} {p p' : Pa} {i : Nat} (h : MI w0 wr kv vv KL p i) (e : ∀ k, pget p' k = pget p k) : MI w0 wr kv vv KL p' (i + 1) := by
  obtain ⟨m, q⟩ := h.mp.same e
  exact ⟨h.bl, h.k, by rw [q]; exact h.v, h.ne, m, Nat.le_succ_of_le h.len⟩
theorem upd_app (l : List V) (x : V) : ∀ i, i < l.length + 1 → upd (fun j => l.getD j nil) l.length x i = (l ++ [x]).getD i nil := fun i hi => by
  rw [List.getD_eq_getElem?_getD]
  by_cases e : i = l.length
  · rw [e, upd_at, List.getElem?_append_right (Nat.le_refl _), Nat.sub_self]; rfl
  · rw [upd_ne _ _ e, List.getElem?_append_left (by omega), List.getD_eq_getElem?_getD]
theorem upd_set (l : List V) {j : Nat} (x : V) (hj : j < l.length) : ∀ i, i < l.length → upd (fun j => l.getD j nil) j x i = (l.set j x).getD i nil := fun i hi => by
  rw [List.getD_eq_getElem?_getD, List.getElem?_set]
  by_cases e : i = j
  · rw [e, upd_at, if_pos rfl, if_pos hj]; rfl
  · rw [upd_ne _ _ e, if_neg (fun q => e q.symm), List.getD_eq_getElem?_getD]
/-- A key more. -/
theorem MI.add {w0 W Wf : World} {kv vv kv' vv' : Value} {KL : List V} {p p' : Pa} {i : Nat} {k v : V} (h : MI w0 W kv vv KL p i) (hk : KOK k) (hn : k ∉ KL) (e1 : pget p' k = v) (e2 : ∀ k', KOK k' → k' ≠ k → pget p' k' = pget p k')
    (b : Keep (fun y => y < w0.heap.size) W Wf) (h1 : Lv Wf w0.heap.size kv' (KL.length + 1) (upd (fun j => KL.getD j nil) KL.length k)) (h2 : Lv Wf w0.heap.size vv' (KL.length + 1) (upd (fun j => (KL.map (pget p)).getD j nil) KL.length v))
    (ne : ∀ g, kv'.ownBlock = some g → vv'.ownBlock ≠ some g) : MI w0 Wf kv' vv' (KL ++ [k]) p' (i + 1) := by
  obtain ⟨m, q⟩ := h.mp.new hk hn e1 e2
  have hl : (KL ++ [k]).length = KL.length + 1 := by simp
  refine ⟨((Keep.of h.bl).sub (No' := fun y => y < w0.heap.size) (fun _ _ => trivial) |>.trans b).below (Nat.le_refl _) (fun g hg => hg), ?_, ?_, ne, m, by rw [hl]; have := h.len; omega⟩
  · rw [hl]; exact h1.congr (upd_app KL k)
  · rw [hl, q]
    have e : (KL.map (pget p)).length = KL.length := List.length_map _
    have := upd_app (KL.map (pget p)) v
    rw [e] at this
    exact h2.congr this
/-- A value changed. -/
theorem MI.put {w0 W : World} {kv : Value} {KL : List V} {p p' : Pa} {i g c j : Nat} {k v : V} (h : MI w0 W kv (.slice (some ⟨g, 0, none⟩) KL.length c) KL p i) (hj : KL[j]? = some k) (e1 : pget p' k = v) (e2 : ∀ k', KOK k' → k' ≠ k → pget p' k' = pget p k') :
    MI w0 (((W.setCell ⟨g, j * 3, none⟩ (.int .i64 v.1)).setCell ⟨g, j * 3 + 1, none⟩ (.int .i64 v.2.1)).setCell ⟨g, j * 3 + 2, none⟩ (.string v.2.2)) kv (.slice (some ⟨g, 0, none⟩) KL.length c) KL p' (i + 1) := by
  obtain ⟨m, q⟩ := h.mp.old hj e1 e2
  have hjl : j < KL.length := (List.getElem?_eq_some_iff.1 hj).1
  have hg := h.v.own_lt (g := g) (by simp [Value.ownBlock])
  have kp : Keep (fun y => y ≠ g) W (((W.setCell ⟨g, j * 3, none⟩ (.int .i64 v.1)).setCell ⟨g, j * 3 + 1, none⟩ (.int .i64 v.2.1)).setCell ⟨g, j * 3 + 2, none⟩ (.string v.2.2)) :=
    (((Keep.refl _ W).set (p := ⟨g, j * 3, none⟩) (fun q => q rfl) _).set (p := ⟨g, j * 3 + 1, none⟩) (fun q => q rfl) _).set (p := ⟨g, j * 3 + 2, none⟩) (fun q => q rfl) _
  refine ⟨((Keep.of h.bl).sub (No' := fun y => y < w0.heap.size) (fun _ _ => trivial) |>.trans (kp.sub fun y hy e => by subst e; have := hg.1; have : y < w0.heap.size := hy; omega)).below (Nat.le_refl _) (fun g hg => hg),
    h.k.keep kp (fun y hy e => h.ne y hy (by subst e; simp [Value.ownBlock])), ?_, h.ne, m, Nat.le_succ_of_le h.len⟩
  rw [q]
  have e : (KL.map (pget p)).length = KL.length := List.length_map _
  have := upd_set (KL.map (pget p)) (j := j) v (by omega)
  rw [e] at this
  exact (h.v.set hjl v).congr this
/-- How many of the first m values are not Nil. -/
def cntV (KL : List V) (p : Pa) (m : Nat) : Nat := ((KL.map (pget p)).take m).countP fun x => decide (x.1 ≠ 0)
theorem cntV_le (KL : List V) (p : Pa) (m : Nat) : cntV KL p m ≤ m := Nat.le_trans List.countP_le_length (by rw [List.length_take]; exact Nat.min_le_left _ _)
theorem cntV_yes {KL : List V} {p : Pa} {m : Nat} {k : V} (h : KL[m]? = some k) (h0 : (pget p k).1 ≠ 0) : cntV KL p (m + 1) = cntV KL p m + 1 := by
  unfold cntV
  rw [List.take_add_one, List.getElem?_map, h, List.countP_append]
  congr 1
  simp [h0]
theorem cntV_no {KL : List V} {p : Pa} {m : Nat} {k : V} (h : KL[m]? = some k) (h0 : (pget p k).1 = 0) : cntV KL p (m + 1) = cntV KL p m := by
  unfold cntV
  rw [List.take_add_one, List.getElem?_map, h, List.countP_append]
  simp [h0]
theorem cntV_all {KL : List V} {p : Pa} (h : MpT KL p) (ti : TI p) : cntV KL p KL.length = (wl p).length := by
  unfold cntV
  rw [List.take_of_length_le (by rw [List.length_map]; exact Nat.le_refl _)]
  exact h.count ti
theorem Bx.mk2 (x : V) {W : World} {b : Nat} (h : b = W.heap.size) : Bx (W.alloc (.cells #[.int .i64 x.1, .int .i64 x.2.1, .string x.2.2] 37)) b x := by subst h; exact Bx.made W x
theorem Bx.al {W : World} {b : Nat} {x : V} (h : Bx W b x) (o : Obj) : Bx (W.alloc o) b x := h.below (b1 _ _)
theorem Bx.dr {W : World} {b : Nat} {x : V} (h : Bx W b x) : Bx W.drew b x := h.below (bdrew1 _)
theorem Bx.gr {W W' : World} {b : Nat} {x : V} {row : Option Nat} (hg : W.grownBy W' row) (h : Bx W b x) (hr : row ≠ some b) : Bx W' b x :=
  h.kept (No := fun y => some y ≠ row) ⟨hg.os, hg.tape, hg.output, hg.size, fun y hy hn => hg.block y hy hn⟩ (fun e => hr e.symm)
theorem Keep.grw {No : Nat → Prop} {w w1 w2 : World} {row : Option Nat} (h : Keep No w w1) (k : w1.grownBy w2 row) (hr : ∀ y, row = some y → ¬ No y) : Keep No w w2 :=
  h.trans ⟨k.os, k.tape, k.output, k.size, fun y hy hn => k.block y hy (fun e => hr y e.symm hn)⟩
theorem step_app {ops : Array Oper} {o : Oper} {ac : Act} {K : Act → World → Prop} {Q : Exit → Act → World → Prop} {E : Prop} {W : World} {B : Nat} {v : Value} {n : Nat} {F : Nat → V} {x : V} (hgd : o.guard = none) (s y : Operand)
    (ho : o.op = .call { callee := .builtin .append, args := #[s, y], argTypes := #[30, 30] }) (hty : o.type = 30) (hs : ac.eval s = v) (hy : ∃ b, ac.eval y = .slice (some ⟨b, 0, none⟩) 1 1 ∧ Bx W b x) (hl : Lv W B v n F) (hn : n ≤ 400) (hB : B ≤ W.heap.size)
    (h : ∀ g c w', Lv w' B (.slice (some ⟨g, 0, none⟩) (n + 1) c) (n + 1) (upd F n x) → W.grownBy w' v.ownBlock → (v.ownBlock = some g ∨ g = W.heap.size) → g < w'.heap.size → K (ac.put o.dst (.slice (some ⟨g, 0, none⟩) (n + 1) c)) w') :
    if Region.wanted o (yielded ops ac.tmps) = true then Oper.wp Tryz.prog o ac W K Q else E := by
  obtain ⟨b, hb, hx⟩ := hy
  obtain ⟨g, c, w', hr, h1, h2, h3, h4⟩ := hl.app x hx hn hB
  have hw : Region.wanted o (yielded ops ac.tmps) = true := by simp [Region.wanted, hgd]
  rw [if_pos hw]
  unfold Oper.wp execOp
  simp only [ho, hty, resolve, invoke, builtin, Sem.run_bind, Sem.run_pure, Result.andThen_ok, List.map_toArray, List.map_cons, List.map_nil, hs, hb, hr]
  exact h g c w' h1 h2 h3 h4
end Go.Proofs.YtpmmploedkbeoaaGreatDoor

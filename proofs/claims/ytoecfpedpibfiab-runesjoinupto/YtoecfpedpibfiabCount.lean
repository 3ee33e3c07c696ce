/- The walks of Count, Bad and Decode. -/
import Derived.Test.YtoecfpedpibfiabOwn
namespace Go.Proofs.Ytoecfpedpibfiab
open Go.RowKit

theorem rest_len (s : ByteArray) (p : Nat) : (rest s p).length ≤ s.size - p := by
  by_cases h : p < s.size
  · rw [rest_at s p h]
    have h1 := wd_pos s p
    have h2 := rest_len s (p + wd s p)
    have h3 := wd_le s p h
    simp only [List.length_cons]
    omega
  · rw [rest_end s p h]; simp
termination_by s.size - p
decreasing_by have := wd_pos s p; omega

theorem runTo_all (l : List Rn) : ∀ done, runTo (fun _ => true) done l = done ++ l := by
  induction l with
  | nil => intro done; simp [runTo]
  | cons r l ih => intro done; simp [runTo, ih]

theorem enters32 : ∀ args w, (callFunc 14 args).run Try.prog w = .ok (.enter 14 args) w := enters_of Try.func14 (by kernel_rfl) rfl

theorem alloc_cell {W : World} {b : Nat} (h : b < W.heap.size) {o : Nat} {v : Option Value} (hc : W.cell? ⟨b, o, none⟩ = v) : ∀ x, (W.alloc x).cell? ⟨b, o, none⟩ = v := fun x => (((Below.refl _ W).alloc (Nat.le_refl _) x).cell h).trans hc
theorem alloc_frozen {W : World} {b : Nat} (h : b < W.heap.size) {o : Nat} {v : Bool} (hc : W.frozen? ⟨b, o, none⟩ = v) : ∀ x, (W.alloc x).frozen? ⟨b, o, none⟩ = v := fun x => (((Below.refl _ W).alloc (Nat.le_refl _) x).frozen h).trans hc

set_option maxHeartbeats 400000 in
theorem count_step (b : Nat) (W : World) (n : Int) (x y z : Int) (hb : b < W.heap.size) (hc : W.cell? ⟨b, 0, none⟩ = some (.int .i64 n)) (hf : W.frozen? ⟨b, 0, none⟩ = false) (h0 : 0 ≤ n) (h1 : n < 9223372036854775807) :
    Calls Try.prog 14 #[.agg #[.int .i64 x, .int .i64 y, .int .i64 z], .pointer (some ⟨b, 0, none⟩)] W fun e W' => e = .returned (.bool true) ∧ ∃ o, W' = (W.setCell ⟨b, 0, none⟩ (.int .i64 (n + 1))).alloc o := by
  have hc1 := alloc_cell hb hc
  have hf1 := alloc_frozen hb hf
  go_enter Try.func14, Try.ntmps14
  go_wp2
  go_ret
  exact ⟨rfl, _, rfl⟩

/-- One cell of the call's own and the iterator behind it: the start. -/
theorem own_start (w : World) (t : TypeId) (v : Value) (s : ByteArray) : Own w.heap.size (w.heap.size + 1) w ((w.alloc (.cells #[v] t)).alloc (.stringIter s 0)) [(w.heap.size, 0, v)] where
  cell c hc := by
    simp only [List.mem_singleton] at hc; subst hc
    exact alloc_cell (by simp) (new_cell w [v] t 0 v rfl).1 _
  free c hc := by
    simp only [List.mem_singleton] at hc; subst hc
    exact alloc_frozen (by simp) (new_cell w [v] t 0 v rfl).2 _
  low c hc := by simp only [List.mem_singleton] at hc; subst hc; simp; omega
  below := ((Below.refl _ _).alloc (Nat.le_refl _) _).alloc (by simp) _
  iter := by simp

set_option maxHeartbeats 400000 in
theorem count_any (s : ByteArray) (w : World) (hs : s.size ≤ 9223372036854775807) : Calls Try.prog 7 #[.string s] w fun e w' => e = .returned (.int .i64 (rest s 0).length) ∧ Below w.heap.size w w' := by
  have hl := rest_len s 0
  have HE := each_any s 14 #[.pointer (some ⟨w.heap.size, 0, none⟩)] enters32 (w.alloc (.cells #[.int .i64 0] 3)) hs (fun _ => true) (fun done W => Own w.heap.size (w.heap.size + 1) w W [(w.heap.size, 0, .int .i64 done.length)])
    (own_start w 3 _ s)
    (fun done W p p' h _ => by have := h.iterAt s p'; simpa using this)
    (fun done r l W he _ h _ => by
      have hlen := congrArg List.length he
      simp only [List.length_append, List.length_cons] at hlen
      have hin : (w.heap.size, 0, Value.int .i64 done.length) ∈ [(w.heap.size, 0, Value.int .i64 done.length)] := List.mem_singleton.2 rfl
      refine (count_step w.heap.size W done.length r.1 r.2.1 r.2.2 (h.low _ hin).2.2 (h.cell _ hin) (h.free _ hin) (by omega) (by omega)).mono fun e W' ⟨he, o, hW⟩ => ?_
      subst hW
      refine ⟨he, ?_, ?_⟩
      · have := (h.set w.heap.size 0 hin (.int .i64 (done.length + 1))).alloc o
        simpa using this
      · have := h.iter.2
        simp only [World.size_alloc]
        rw [iter_alloc (by rw [size_set]; omega), iter_set (by omega)])
  rw [runTo_all, List.nil_append] at HE
  clear hs hl
  go_enter Try.func7, Try.ntmps7
  go_wp2_with (go_at_call 12; refine HE.mono ?_; rintro e W ⟨rfl, hO⟩; have hcW : W.cell? ⟨w.heap.size, 0, none⟩ = some (.int .i64 (rest s 0).length) := hO.cell _ (List.mem_singleton.2 rfl))
  go_ret
  exact ⟨rfl, by have := hO.below; exact this⟩

/-! ### Bad -/
theorem ret_bool {a b : Bool} (h : a = b) : Ending.returned (.bool a) = .returned (.bool b) := by rw [h]
def isBad (r : Rn) : Bool := decide (r.2.2 = 65533) && decide (r.2.1 = 1)
def badOf (l : List Rn) : Int := match l.find? isBad with | some r => r.1 | none => -1

theorem enters33 : ∀ args w, (callFunc 17 args).run Try.prog w = .ok (.enter 17 args) w := enters_of Try.func17 (by kernel_rfl) rfl

set_option maxHeartbeats 400000 in
theorem bad_yes (b : Nat) (W : World) (n : Int) (x : Int) (hb : b < W.heap.size) (hc : W.cell? ⟨b, 0, none⟩ = some (.int .i64 n)) (hf : W.frozen? ⟨b, 0, none⟩ = false) (h0 : 0 ≤ x) :
    Calls Try.prog 17 #[.agg #[.int .i64 x, .int .i64 1, .int .i64 65533], .pointer (some ⟨b, 0, none⟩)] W fun e W' => e = .returned (.bool false) ∧ ∃ o o', W' = ((W.setCell ⟨b, 0, none⟩ (.int .i64 x)).alloc o).alloc o' := by
  have hc1 := alloc_cell hb hc
  have hf1 := alloc_frozen hb hf
  have hc2 := fun o => alloc_cell (W := W.alloc o) (by simp; omega) (hc1 o)
  have hf2 := fun o => alloc_frozen (W := W.alloc o) (by simp; omega) (hf1 o)
  go_enter Try.func17, Try.ntmps17
  go_wp2
  go_ret
  exact ⟨ret_bool (by simp; omega), _, _, rfl⟩

set_option maxHeartbeats 400000 in
theorem bad_no (b : Nat) (W : World) (n : Int) (x y z : Int) (hb : b < W.heap.size) (hc : W.cell? ⟨b, 0, none⟩ = some (.int .i64 n)) (h0 : n < 0) (hyz : ¬ (z = 65533 ∧ y = 1)) :
    Calls Try.prog 17 #[.agg #[.int .i64 x, .int .i64 y, .int .i64 z], .pointer (some ⟨b, 0, none⟩)] W fun e W' => e = .returned (.bool true) ∧ ∃ o o', W' = (W.alloc o).alloc o' := by
  have hc1 := alloc_cell hb hc
  have hc2 := fun o => alloc_cell (W := W.alloc o) (by simp; omega) (hc1 o)
  by_cases hz : z = 65533
  · have hy : ¬ y = 1 := fun h => hyz ⟨hz, h⟩
    have hy' : (y == 1) = false := by simpa using hy
    subst hz
    clear hyz
    go_enter Try.func17, Try.ntmps17
    go_wp2
    go_ret
    exact ⟨rfl, _, _, rfl⟩
  · have hz' : (z == 65533) = false := by simpa using hz
    clear hyz
    go_enter Try.func17, Try.ntmps17
    go_wp2
    go_ret
    exact ⟨rfl, _, _, rfl⟩

theorem badOf_snoc (l : List Rn) (r : Rn) (h : badOf l < 0) : badOf (l ++ [r]) = if isBad r then (r.1 : Int) else -1 := by
  have hn : l.find? isBad = none := by
    unfold badOf at h
    cases hf : l.find? isBad with
    | none => rfl
    | some r => rw [hf] at h; simp at h; omega
  unfold badOf
  rw [List.find?_append, hn]
  simp only [Option.none_or, List.find?_cons, List.find?_nil]
  cases isBad r <;> rfl

theorem badOf_runTo (l : List Rn) : ∀ done, badOf done < 0 → badOf (runTo (fun d => decide (badOf d < 0)) done l) = badOf (done ++ l) := by
  induction l with
  | nil => intro done _; simp [runTo]
  | cons r l ih =>
    intro done h
    by_cases hb : badOf (done ++ [r]) < 0
    · simp only [runTo, hb, decide_true, if_true]
      rw [ih _ hb]; simp
    · simp only [runTo, hb, decide_false, Bool.false_eq_true, if_false]
      have hs := badOf_snoc done r h
      have hr : isBad r = true := by
        cases hr : isBad r
        · rw [hr] at hs; simp at hs; omega
        · rfl
      have hn : done.find? isBad = none := by
        unfold badOf at h
        cases hf : done.find? isBad with
        | none => rfl
        | some r => rw [hf] at h; simp at h; omega
      rw [hs, hr]
      unfold badOf
      rw [List.find?_append, hn]
      simp [hr]

set_option maxHeartbeats 400000 in
theorem bad_any (s : ByteArray) (w : World) (hs : s.size ≤ 9223372036854775807) : Calls Try.prog 10 #[.string s] w fun e w' => e = .returned (.int .i64 (badOf (rest s 0))) ∧ Below w.heap.size w w' := by
  have HE := each_any s 17 #[.pointer (some ⟨w.heap.size, 0, none⟩)] enters33 (w.alloc (.cells #[.int .i64 (-1)] 3)) hs (fun d => decide (badOf d < 0)) (fun done W => Own w.heap.size (w.heap.size + 1) w W [(w.heap.size, 0, .int .i64 (badOf done))])
    (own_start w 3 _ s)
    (fun done W p p' h _ => by have := h.iterAt s p'; simpa using this)
    (fun done r l W he hg h _ => by
      have hneg : badOf done < 0 := by
        rcases hg with rfl | hg
        · simp [badOf]
        · simpa using hg
      have hin : (w.heap.size, 0, Value.int .i64 (badOf done)) ∈ [(w.heap.size, 0, Value.int .i64 (badOf done))] := List.mem_singleton.2 rfl
      have hsn := badOf_snoc done r hneg
      have hit := h.iter.2
      obtain ⟨x, y, z⟩ := r
      by_cases hr : isBad (x, y, z) = true
      · rw [hr] at hsn
        simp only [isBad, Bool.and_eq_true, decide_eq_true_eq] at hr
        obtain ⟨rfl, rfl⟩ := hr
        refine (bad_yes w.heap.size W (badOf done) x (h.low _ hin).2.2 (h.cell _ hin) (h.free _ hin) (by omega)).mono fun e W' ⟨he, o, o', hW⟩ => ?_
        subst hW
        refine ⟨by rw [he, hsn]; simp, ?_, ?_⟩
        · have := ((h.set w.heap.size 0 hin (.int .i64 x)).alloc o).alloc o'
          rw [hsn]
          simpa using this
        · simp only [World.size_alloc]
          rw [iter_alloc (by simp; omega), iter_alloc (by rw [size_set]; omega), iter_set (by omega)]
      · have hr' : isBad (x, y, z) = false := by simpa using hr
        rw [hr'] at hsn
        have hyz : ¬ ((z : Int) = 65533 ∧ (y : Int) = 1) := by
          intro ⟨h1, h2⟩
          apply hr
          simp only [isBad, Bool.and_eq_true, decide_eq_true_eq]
          omega
        refine (bad_no w.heap.size W (badOf done) x y z (h.low _ hin).2.2 (h.cell _ hin) hneg hyz).mono fun e W' ⟨he, o, o', hW⟩ => ?_
        subst hW
        have hm1 : badOf done = -1 := by
          unfold badOf at hneg ⊢
          cases hf : done.find? isBad with
          | none => rfl
          | some r => rw [hf] at hneg; simp at hneg; omega
        refine ⟨by rw [he, hsn]; simp, ?_, ?_⟩
        · have := (h.alloc o).alloc o'
          rw [hsn]
          rw [hm1] at this
          simpa using this
        · simp only [World.size_alloc]
          rw [iter_alloc (by simp; omega), iter_alloc (by omega)])
  have hb0 := badOf_runTo (rest s 0) [] (by simp [badOf])
  rw [List.nil_append] at hb0
  simp only [hb0] at HE
  clear hs hb0
  go_enter Try.func10, Try.ntmps10
  go_wp2_with (go_at_call 12; refine HE.mono ?_; rintro e W ⟨rfl, hO⟩; have hcW : W.cell? ⟨w.heap.size, 0, none⟩ = some (.int .i64 (badOf (rest s 0))) := hO.cell _ (List.mem_singleton.2 rfl))
  go_ret
  exact ⟨rfl, by have := hO.below; exact this⟩

#print axioms count_any
#print axioms bad_any
end Go.Proofs.Ytoecfpedpibfiab

/- The walk of Decode: the first rune of a text from a byte on. -/
import Derived.Test.YtoecfpedpibfiaaFix
namespace Go.Proofs.Ytoecfpedpibfiaa
open Go.RowKit

theorem get_extract (s : ByteArray) (a i : Nat) : (s.extract a s.size).get! i = s.get! (a + i) := by
  rw [get_data, get_data, Lib.extract_to_end]
  simp [List.getD, List.getElem?_drop]
theorem decode_extract (s : ByteArray) (a p : Nat) : Utf8.decode (s.extract a s.size) p = Utf8.decode s (a + p) := by
  rw [Lib.decode_at, Lib.decode_at, get_extract, get_extract, get_extract, get_extract]
  have h : (s.extract a s.size).size - p = s.size - (a + p) := by rw [ByteArray.size_extract]; omega
  rw [h]
  simp only [Nat.add_assoc]
theorem wd_extract (s : ByteArray) (a p : Nat) : wd (s.extract a s.size) p = wd s (a + p) := by unfold wd; rw [decode_extract]
theorem rn_extract (s : ByteArray) (a p : Nat) : rn (s.extract a s.size) p = rn s (a + p) := by unfold rn; rw [decode_extract]

theorem enters36 : ∀ args w, (callFunc 36 args).run Try.prog w = .ok (.enter 36 args) w := enters_of Try.func36 (by kernel_rfl) rfl

set_option maxHeartbeats 400000 in
theorem dec_step (b f : Nat) (W : World) (n x y z : Int) (u0 u1 u2 : Value) (hb : b < W.heap.size) (hf : f < W.heap.size) (hc : W.cell? ⟨b, 0, none⟩ = some (.int .i64 n))
    (h0 : W.cell? ⟨f, 0, none⟩ = some u0) (h1 : W.cell? ⟨f, 1, none⟩ = some u1) (h2 : W.cell? ⟨f, 2, none⟩ = some u2)
    (f0 : W.frozen? ⟨f, 0, none⟩ = false) (f1 : W.frozen? ⟨f, 1, none⟩ = false) (f2 : W.frozen? ⟨f, 2, none⟩ = false) :
    Calls Try.prog 36 #[.agg #[.int .i64 x, .int .i64 y, .int .i64 z], .pointer (some ⟨b, 0, none⟩), .pointer (some ⟨f, 0, none⟩)] W fun e W' => e = .returned (.bool false) ∧
      ∃ o, W' = (((W.setCell ⟨f, 0, none⟩ (.int .i64 n)).setCell ⟨f, 1, none⟩ (.int .i64 y)).setCell ⟨f, 2, none⟩ (.int .i64 z)).alloc o := by
  have hc1 := alloc_cell hb hc
  have k0 := alloc_cell hf h0
  have k1 := alloc_cell hf h1
  have k2 := alloc_cell hf h2
  have g0 := alloc_frozen hf f0
  have g1 := alloc_frozen hf f1
  have g2 := alloc_frozen hf f2
  go_enter Try.func36, Try.ntmps36
  go_wp2
  go_ret
  exact ⟨rfl, _, rfl⟩

/-- Cells that lie ready, and a new iterator behind them. -/
theorem Own.start {B : Nat} {w W : World} {cs : List (Nat × Nat × Value)} (hc : ∀ c ∈ cs, W.cell? ⟨c.1, c.2.1, none⟩ = some c.2.2 ∧ W.frozen? ⟨c.1, c.2.1, none⟩ = false ∧ B ≤ c.1 ∧ c.1 < W.heap.size)
    (hb : Below B w W) (hB : B ≤ W.heap.size) (s : ByteArray) : Own B W.heap.size w (W.alloc (.stringIter s 0)) cs where
  cell c h := alloc_cell (hc c h).2.2.2 (hc c h).1 _
  free c h := alloc_frozen (hc c h).2.2.2 (hc c h).2.1 _
  low c h := by have := hc c h; simp; omega
  below := hb.alloc hB _
  iter := by simp; omega

/-- What Decode's going through leaves in its variable. -/
def fst3 (n : Int) : List Rn → Int × Int × Int
  | [] => (0, 0, 0)
  | r :: _ => (n, r.2.1, r.2.2)
def decCells (B : Nat) (n : Int) (done : List Rn) : List (Nat × Nat × Value) :=
  [(B, 0, .int .i64 n), (B + 1, 0, .int .i64 0), (B + 1, 1, .int .i64 0), (B + 1, 2, .int .i64 0), (B + 2, 0, .int .i64 (fst3 n done).1), (B + 2, 1, .int .i64 (fst3 n done).2.1), (B + 2, 2, .int .i64 (fst3 n done).2.2)]

/-- The world in which Decode goes through the text. -/
def decW (w : World) (n : Int) : World := ((w.alloc (.cells #[.int .i64 n] 3)).alloc (.cells #[.int .i64 0, .int .i64 0, .int .i64 0] 30)).alloc (.cells #[.int .i64 0, .int .i64 0, .int .i64 0] 30)
theorem decW_size (w : World) (n : Int) : (decW w n).heap.size = w.heap.size + 3 := by simp [decW]

theorem decW_own (w : World) (n : Int) (s : ByteArray) : Own w.heap.size (w.heap.size + 3) w ((decW w n).alloc (.stringIter s 0)) (decCells w.heap.size n []) := by
  have key : ∀ c ∈ decCells w.heap.size n [], (decW w n).cell? ⟨c.1, c.2.1, none⟩ = some c.2.2 ∧ (decW w n).frozen? ⟨c.1, c.2.1, none⟩ = false ∧ w.heap.size ≤ c.1 ∧ c.1 < (decW w n).heap.size := by
    intro c hc
    rw [decW_size]
    have n0 := new_cell w [.int .i64 n] 3 0 _ rfl
    have e1 : (w.alloc (.cells #[.int .i64 n] 3)).heap.size = w.heap.size + 1 := by simp
    have n1 := fun j v h => new_cell (w.alloc (.cells #[.int .i64 n] 3)) [.int .i64 0, .int .i64 0, .int .i64 0] 30 j v h
    rw [e1] at n1
    have e2 : ((w.alloc (.cells #[.int .i64 n] 3)).alloc (.cells #[.int .i64 0, .int .i64 0, .int .i64 0] 30)).heap.size = w.heap.size + 2 := by simp
    have n2 := fun j v h => new_cell ((w.alloc (.cells #[.int .i64 n] 3)).alloc (.cells #[.int .i64 0, .int .i64 0, .int .i64 0] 30)) [.int .i64 0, .int .i64 0, .int .i64 0] 30 j v h
    rw [e2] at n2
    simp only [decCells, fst3, List.mem_cons, List.not_mem_nil, or_false] at hc
    rcases hc with rfl | rfl | rfl | rfl | rfl | rfl | rfl
    · exact ⟨alloc_cell (by simp <;> omega) (alloc_cell (by simp <;> omega) n0.1 _) _, alloc_frozen (by simp <;> omega) (alloc_frozen (by simp <;> omega) n0.2 _) _, by simp <;> omega⟩
    · exact ⟨alloc_cell (by simp <;> omega) (n1 0 _ rfl).1 _, alloc_frozen (by simp <;> omega) (n1 0 _ rfl).2 _, by simp <;> omega⟩
    · exact ⟨alloc_cell (by simp <;> omega) (n1 1 _ rfl).1 _, alloc_frozen (by simp <;> omega) (n1 1 _ rfl).2 _, by simp <;> omega⟩
    · exact ⟨alloc_cell (by simp <;> omega) (n1 2 _ rfl).1 _, alloc_frozen (by simp <;> omega) (n1 2 _ rfl).2 _, by simp <;> omega⟩
    · exact ⟨(n2 0 _ rfl).1, (n2 0 _ rfl).2, by simp <;> omega⟩
    · exact ⟨(n2 1 _ rfl).1, (n2 1 _ rfl).2, by simp <;> omega⟩
    · exact ⟨(n2 2 _ rfl).1, (n2 2 _ rfl).2, by simp <;> omega⟩
  have h := Own.start key ((((Below.refl _ w).alloc (Nat.le_refl _) _).alloc (by simp <;> omega) _).alloc (by simp <;> omega) _) (by rw [decW_size]; omega) s
  rw [decW_size] at h
  exact h

set_option maxHeartbeats 1000000 in
theorem decode_each (x : ByteArray) (n : Int) (w : World) (hx : 0 < x.size) (hxs : x.size ≤ 9223372036854775807) :
    Calls Try.prog 29 #[.string x, .func (.func 36) #[] #[.pointer (some ⟨w.heap.size, 0, none⟩), .pointer (some ⟨w.heap.size + 2, 0, none⟩)]] (decW w n) fun e w' => e = .returned (.tuple #[]) ∧
      Own w.heap.size (w.heap.size + 3) w w' (decCells w.heap.size n [(0, wd x 0, rn x 0)]) := by
  have HE := each_any x 36 #[.pointer (some ⟨w.heap.size, 0, none⟩), .pointer (some ⟨w.heap.size + 2, 0, none⟩)] enters36 (decW w n) hxs (fun _ => false)
    (fun done W => done.length ≤ 1 ∧ Own w.heap.size (w.heap.size + 3) w W (decCells w.heap.size n done))
    ⟨by simp, decW_own w n x⟩
    (fun done W p p' h _ => ⟨h.1, by have := h.2.iterAt x p'; rw [decW_size]; exact this⟩)
    (fun done r l W he hg h _ => by
      have hd : done = [] := by rcases hg with h | h; exact h; cases h
      subst hd
      obtain ⟨_, h⟩ := h
      have hm : ∀ c, c ∈ decCells w.heap.size n [] → c ∈ decCells w.heap.size n [] := fun _ h => h
      have i0 : (w.heap.size, 0, Value.int .i64 n) ∈ decCells w.heap.size n [] := by simp [decCells]
      have i4 : (w.heap.size + 2, 0, Value.int .i64 0) ∈ decCells w.heap.size n [] := by simp [decCells, fst3]
      have i5 : (w.heap.size + 2, 1, Value.int .i64 0) ∈ decCells w.heap.size n [] := by simp [decCells, fst3]
      have i6 : (w.heap.size + 2, 2, Value.int .i64 0) ∈ decCells w.heap.size n [] := by simp [decCells, fst3]
      have hit := h.iter.2
      refine (dec_step w.heap.size (w.heap.size + 2) W n r.1 r.2.1 r.2.2 _ _ _ (h.low _ i0).2.2 (h.low _ i4).2.2 (h.cell _ i0) (h.cell _ i4) (h.cell _ i5) (h.cell _ i6) (h.free _ i4) (h.free _ i5) (h.free _ i6)).mono fun e W' ⟨he, o, hW⟩ => ?_
      subst hW
      refine ⟨he, ⟨by simp, ?_⟩, ?_⟩
      · have s1 := h.set (w.heap.size + 2) 0 i4 (.int .i64 n)
        have s2 := s1.set (w.heap.size + 2) 1 (v := .int .i64 0) (by simp [decCells, fst3]) (.int .i64 r.2.1)
        have s3 := (s2.set (w.heap.size + 2) 2 (v := .int .i64 0) (by simp [decCells, fst3]) (.int .i64 r.2.2)).alloc o
        simpa [decCells, fst3] using s3
      · rw [decW_size, iter_alloc (by simp; omega), iter_set (by omega), iter_set (by omega), iter_set (by omega)])
  rw [rest_at x 0 hx] at HE
  simp only [runTo, Bool.false_eq_true, if_false, List.nil_append] at HE
  exact HE.mono fun e w' h => ⟨h.1, h.2.2⟩

set_option maxHeartbeats 1000000 in
theorem decode_no (s : ByteArray) (n : Int) (w : World) (h : n < 0 ∨ (s.size : Int) ≤ n) : Calls Try.prog 17 #[.string s, .int .i64 n] w fun e w' => e = .returned (.tuple #[.agg #[.int .i64 0, .int .i64 0, .int .i64 0], .int .i64 1]) ∧ Below w.heap.size w w' := by
  rcases h with h | h
  · go_enter Try.func17, Try.ntmps17
    go_wp2
    exact bodyPost_ret (v := .tuple #[.agg #[.int .i64 0, .int .i64 0, .int .i64 0], .int .i64 1]) (by simp [results, Try.results17, go_sem]) rfl ⟨rfl, ((Below.refl _ _).alloc (Nat.le_refl _) _).alloc (by simp) _⟩
  · have h0 : ¬ n < 0 := by omega
    go_enter Try.func17, Try.ntmps17
    go_wp2
    exact bodyPost_ret (v := .tuple #[.agg #[.int .i64 0, .int .i64 0, .int .i64 0], .int .i64 1]) (by simp [results, Try.results17, go_sem]) rfl ⟨rfl, ((Below.refl _ _).alloc (Nat.le_refl _) _).alloc (by simp) _⟩

set_option maxHeartbeats 1000000 in
theorem decode_yes (s : ByteArray) (n : Nat) (w : World) (h : n < s.size) (hs : s.size ≤ 9223372036854775807) : Calls Try.prog 17 #[.string s, .int .i64 n] w fun e w' => e = .returned (.tuple #[.agg #[.int .i64 n, .int .i64 (wd s n), .int .i64 (rn s n)], .int .i64 0]) ∧ Below w.heap.size w w' := by
  have hz : (s.extract n s.size).size = s.size - n := by rw [ByteArray.size_extract]; omega
  have HE := decode_each (s.extract n s.size) n w (by omega) (by omega)
  rw [wd_extract, rn_extract] at HE
  simp only [Nat.add_zero] at HE
  clear hz
  unfold decW at HE
  go_enter Try.func17, Try.ntmps17
  go_wp2_with (go_at_call 29; refine HE.mono ?_; rintro e W ⟨rfl, hO⟩; have g0 := hO.cell _ (show (w.heap.size + 2, 0, Value.int .i64 n) ∈ _ by simp [decCells, fst3]); have g1 := hO.cell _ (show (w.heap.size + 2, 1, Value.int .i64 (wd s n)) ∈ _ by simp [decCells, fst3]); have g2 := hO.cell _ (show (w.heap.size + 2, 2, Value.int .i64 (rn s n)) ∈ _ by simp [decCells, fst3]); have j0 := hO.cell _ (show (w.heap.size + 1, 0, Value.int .i64 0) ∈ _ by simp [decCells]); have j1 := hO.cell _ (show (w.heap.size + 1, 1, Value.int .i64 0) ∈ _ by simp [decCells]); have j2 := hO.cell _ (show (w.heap.size + 1, 2, Value.int .i64 0) ∈ _ by simp [decCells]); have k0 := hO.free _ (show (w.heap.size + 1, 0, Value.int .i64 0) ∈ _ by simp [decCells]); have k1 := hO.free _ (show (w.heap.size + 1, 1, Value.int .i64 0) ∈ _ by simp [decCells]); have k2 := hO.free _ (show (w.heap.size + 1, 2, Value.int .i64 0) ∈ _ by simp [decCells]))
  refine bodyPost_ret (v := .tuple #[.agg #[.int .i64 n, .int .i64 (wd s n), .int .i64 (rn s n)], .int .i64 0]) (by simp [results, Try.results17, go_sem, j0, j1, j2]) rfl ⟨rfl, ?_⟩
  exact ((hO.below.setCell (by simp) _).setCell (by simp) _).setCell (by simp) _

#print axioms decode_yes
end Go.Proofs.Ytoecfpedpibfiaa

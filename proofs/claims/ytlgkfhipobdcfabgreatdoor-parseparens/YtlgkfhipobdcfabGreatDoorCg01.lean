/- The walk of Decode: the first rune of a text from a byte on. -/
import Derived.Test.YtlgkfhipobdcfabGreatDoorCg00
import Derived.WalkKit
import Derived.WalkSpells
import Derived.Test.YtlgkfhipobdcfabGreatDoorRows
import Derived.WalkLawsBesides
namespace Go.Proofs.YtlgkfhipobdcfabGreatDoor
open Go.RowKit

theorem get_extract (s : ByteArray) (a i : Nat) : (s.extract a s.size).get! i = s.get! (a + i) := by
  rw [get_data, get_data, Lib.extract_to_end]
  simp [List.getD, List.getElem?_drop]
theorem decode_extract (s : ByteArray) (a p : Nat) : Utf8.decode (s.extract a s.size) p = Utf8.decode s (a + p) := by
  rw [Lib.decode_at, Lib.decode_at, get_extract, get_extract, get_extract, get_extract]
  have h : (s.extract a s.size).size - p = s.size - (a + p) := by rw [ByteArray.size_extract]; omega
  rw [h]
  simp only [Nat.add_assoc]
theorem wd_extract (s : ByteArray) (a p : Nat) : wd (s.extract a s.size) p = wd s (a + p) := by unfold wd; rw [decode_extract]
theorem rn_extract (s : ByteArray) (a p : Nat) : rn (s.extract a s.size) p = rn s (a + p) := by unfold rn; rw [decode_extract]

theorem enters36 : ∀ args w, (callFunc 116 args).run Tryz.prog w = .ok (.enter 116 args) w := enters_of Tryz.func116 (by kernel_rfl) rfl

set_option maxHeartbeats 400000 in
theorem dec_step (b f : Nat) (W : World) (n x y z : Int) (u0 u1 u2 : Value) (hb : b < W.heap.size) (hf : f < W.heap.size) (hc : W.cell? ⟨b, 0, none⟩ = some (.int .i64 n))
    (h0 : W.cell? ⟨f, 0, none⟩ = some u0) (h1 : W.cell? ⟨f, 1, none⟩ = some u1) (h2 : W.cell? ⟨f, 2, none⟩ = some u2)
    (f0 : W.frozen? ⟨f, 0, none⟩ = false) (f1 : W.frozen? ⟨f, 1, none⟩ = false) (f2 : W.frozen? ⟨f, 2, none⟩ = false) :
    Calls Tryz.prog 116 #[.agg #[.int .i64 x, .int .i64 y, .int .i64 z], .pointer (some ⟨b, 0, none⟩), .pointer (some ⟨f, 0, none⟩)] W fun e W' => e = .returned (.bool false) ∧
      ∃ o, W' = (((W.setCell ⟨f, 0, none⟩ (.int .i64 n)).setCell ⟨f, 1, none⟩ (.int .i64 y)).setCell ⟨f, 2, none⟩ (.int .i64 z)).alloc o := by
  have hc1 := alloc_cell hb hc
  have k0 := alloc_cell hf h0
  have k1 := alloc_cell hf h1
  have k2 := alloc_cell hf h2
  have g0 := alloc_frozen hf f0
  have g1 := alloc_frozen hf f1
  have g2 := alloc_frozen hf f2
  go_enter Tryz.func116, Tryz.ntmps116
  go_wp2
  go_ret
  exact ⟨rfl, _, rfl⟩

/-- Cells that lie ready, and a new iterator behind them. -/
theorem Own.start {B : Nat} {w W : World} {cs : List (Nat × Nat × Value)} (hc : ∀ c ∈ cs, W.cell? ⟨c.1, c.2.1, none⟩ = some c.2.2 ∧ W.frozen? ⟨c.1, c.2.1, none⟩ = false ∧ B ≤ c.1 ∧ c.1 < W.heap.size)
    (hb : Below B w W) (hB : B ≤ W.heap.size) (s : ByteArray) : Own B W.heap.size w (W.alloc (.stringIter s 0)) cs where
  cell c h := alloc_cell (hc c h).2.2.2 (hc c h).1 _
  free c h := alloc_frozen (hc c h).2.2.2 (hc c h).2.1 _
  low c h := by have := hc c h; simp; omega
  below := hb.alloc hB _
  iter := by simp; omega

/-- What Decode's going through leaves in its variable. -/
def fst3 (n : Int) : List Rn → Int × Int × Int
  | [] => (0, 0, 0)
  | r :: _ => (n, r.2.1, r.2.2)
def decCells (B : Nat) (n : Int) (done : List Rn) : List (Nat × Nat × Value) :=
  [(B, 0, .int .i64 n), (B + 1, 0, .int .i64 0), (B + 1, 1, .int .i64 0), (B + 1, 2, .int .i64 0), (B + 2, 0, .int .i64 (fst3 n done).1), (B + 2, 1, .int .i64 (fst3 n done).2.1), (B + 2, 2, .int .i64 (fst3 n done).2.2)]

/-- The world in which Decode goes through the text. -/
def decW (w : World) (n : Int) : World := ((w.alloc (.cells #[.int .i64 n] 3)).alloc (.cells #[.int .i64 0, .int .i64 0, .int .i64 0] 112)).alloc (.cells #[.int .i64 0, .int .i64 0, .int .i64 0] 112)
theorem decW_size (w : World) (n : Int) : (decW w n).heap.size = w.heap.size + 3 := by simp [decW]

theorem decW_own (w : World) (n : Int) (s : ByteArray) : Own w.heap.size (w.heap.size + 3) w ((decW w n).alloc (.stringIter s 0)) (decCells w.heap.size n []) := by
  have key : ∀ c ∈ decCells w.heap.size n [], (decW w n).cell? ⟨c.1, c.2.1, none⟩ = some c.2.2 ∧ (decW w n).frozen? ⟨c.1, c.2.1, none⟩ = false ∧ w.heap.size ≤ c.1 ∧ c.1 < (decW w n).heap.size := by
    intro c hc
    rw [decW_size]
    have n0 := new_cell w [.int .i64 n] 3 0 _ rfl
    have e1 : (w.alloc (.cells #[.int .i64 n] 3)).heap.size = w.heap.size + 1 := by simp
    have n1 := fun j v h => new_cell (w.alloc (.cells #[.int .i64 n] 3)) [.int .i64 0, .int .i64 0, .int .i64 0] 112 j v h
    rw [e1] at n1
    have e2 : ((w.alloc (.cells #[.int .i64 n] 3)).alloc (.cells #[.int .i64 0, .int .i64 0, .int .i64 0] 112)).heap.size = w.heap.size + 2 := by simp
    have n2 := fun j v h => new_cell ((w.alloc (.cells #[.int .i64 n] 3)).alloc (.cells #[.int .i64 0, .int .i64 0, .int .i64 0] 112)) [.int .i64 0, .int .i64 0, .int .i64 0] 112 j v h
    rw [e2] at n2
    simp only [decCells, fst3, List.mem_cons, List.not_mem_nil, or_false] at hc
    rcases hc with rfl | rfl | rfl | rfl | rfl | rfl | rfl
    · exact ⟨alloc_cell (by simp <;> omega) (alloc_cell (by simp <;> omega) n0.1 _) _, alloc_frozen (by simp <;> omega) (alloc_frozen (by simp <;> omega) n0.2 _) _, by simp <;> omega⟩
    · exact ⟨alloc_cell (by simp <;> omega) (n1 0 _ rfl).1 _, alloc_frozen (by simp <;> omega) (n1 0 _ rfl).2 _, by simp <;> omega⟩
    · exact ⟨alloc_cell (by simp <;> omega) (n1 1 _ rfl).1 _, alloc_frozen (by simp <;> omega) (n1 1 _ rfl).2 _, by simp <;> omega⟩
    · exact ⟨alloc_cell (by simp <;> omega) (n1 2 _ rfl).1 _, alloc_frozen (by simp <;> omega) (n1 2 _ rfl).2 _, by simp <;> omega⟩
    · exact ⟨(n2 0 _ rfl).1, (n2 0 _ rfl).2, by simp <;> omega⟩
    · exact ⟨(n2 1 _ rfl).1, (n2 1 _ rfl).2, by simp <;> omega⟩
    · exact ⟨(n2 2 _ rfl).1, (n2 2 _ rfl).2, by simp <;> omega⟩
  have h := Own.start key ((((Below.refl _ w).alloc (Nat.le_refl _) _).alloc (by simp <;> omega) _).alloc (by simp <;> omega) _) (by rw [decW_size]; omega) s
  rw [decW_size] at h
  exact h

set_option maxHeartbeats 1000000 in
theorem decode_each (x : ByteArray) (n : Int) (w : World) (hx : 0 < x.size) (hxs : x.size ≤ 9223372036854775807) :
    Calls Tryz.prog 115 #[.string x, .func (.func 116) #[] #[.pointer (some ⟨w.heap.size, 0, none⟩), .pointer (some ⟨w.heap.size + 2, 0, none⟩)]] (decW w n) fun e w' => e = .returned (.tuple #[]) ∧
      Own w.heap.size (w.heap.size + 3) w w' (decCells w.heap.size n [(0, wd x 0, rn x 0)]) := by
  have HE := each_any x 116 #[.pointer (some ⟨w.heap.size, 0, none⟩), .pointer (some ⟨w.heap.size + 2, 0, none⟩)] enters36 (decW w n) hxs (fun _ => false)
    (fun done W => done.length ≤ 1 ∧ Own w.heap.size (w.heap.size + 3) w W (decCells w.heap.size n done))
    ⟨by simp, decW_own w n x⟩
    (fun done W p p' h _ => ⟨h.1, by have := h.2.iterAt x p'; rw [decW_size]; exact this⟩)
    (fun done r l W he hg h _ => by
      have hd : done = [] := by rcases hg with h | h; exact h; cases h
      subst hd
      obtain ⟨_, h⟩ := h
      have hm : ∀ c, c ∈ decCells w.heap.size n [] → c ∈ decCells w.heap.size n [] := fun _ h => h
      have i0 : (w.heap.size, 0, Value.int .i64 n) ∈ decCells w.heap.size n [] := by simp [decCells]
      have i4 : (w.heap.size + 2, 0, Value.int .i64 0) ∈ decCells w.heap.size n [] := by simp [decCells, fst3]
      have i5 : (w.heap.size + 2, 1, Value.int .i64 0) ∈ decCells w.heap.size n [] := by simp [decCells, fst3]
      have i6 : (w.heap.size + 2, 2, Value.int .i64 0) ∈ decCells w.heap.size n [] := by simp [decCells, fst3]
      have hit := h.iter.2
      refine (dec_step w.heap.size (w.heap.size + 2) W n r.1 r.2.1 r.2.2 _ _ _ (h.low _ i0).2.2 (h.low _ i4).2.2 (h.cell _ i0) (h.cell _ i4) (h.cell _ i5) (h.cell _ i6) (h.free _ i4) (h.free _ i5) (h.free _ i6)).mono fun e W' ⟨he, o, hW⟩ => ?_
      subst hW
      refine ⟨he, ⟨by simp, ?_⟩, ?_⟩
      · have s1 := h.set (w.heap.size + 2) 0 i4 (.int .i64 n)
        have s2 := s1.set (w.heap.size + 2) 1 (v := .int .i64 0) (by simp [decCells, fst3]) (.int .i64 r.2.1)
        have s3 := (s2.set (w.heap.size + 2) 2 (v := .int .i64 0) (by simp [decCells, fst3]) (.int .i64 r.2.2)).alloc o
        simpa [decCells, fst3] using s3
      · rw [decW_size, iter_alloc (by simp; omega), iter_set (by omega), iter_set (by omega), iter_set (by omega)])
  rw [rest_at x 0 hx] at HE
  simp only [runTo, Bool.false_eq_true, if_false, List.nil_append] at HE
  exact HE.mono fun e w' h => ⟨h.1, h.2.2⟩

set_option maxHeartbeats 1000000 in
theorem decode_no (s : ByteArray) (n : Int) (w : World) (h : n < 0 ∨ (s.size : Int) ≤ n) : Calls Tryz.prog 105 #[.string s, .int .i64 n] w fun e w' => e = .returned (.tuple #[.agg #[.int .i64 0, .int .i64 0, .int .i64 0], .int .i64 1]) ∧ Below w.heap.size w w' := by
  rcases h with h | h
  · go_enter Tryz.func105, Tryz.ntmps105
    go_wp2
    exact bodyPost_ret (v := .tuple #[.agg #[.int .i64 0, .int .i64 0, .int .i64 0], .int .i64 1]) (by simp [results, Tryz.results105, go_sem]) rfl ⟨rfl, ((Below.refl _ _).alloc (Nat.le_refl _) _).alloc (by simp) _⟩
  · have h0 : ¬ n < 0 := by omega
    go_enter Tryz.func105, Tryz.ntmps105
    go_wp2
    exact bodyPost_ret (v := .tuple #[.agg #[.int .i64 0, .int .i64 0, .int .i64 0], .int .i64 1]) (by simp [results, Tryz.results105, go_sem]) rfl ⟨rfl, ((Below.refl _ _).alloc (Nat.le_refl _) _).alloc (by simp) _⟩

set_option maxHeartbeats 1000000 in
theorem decode_yes (s : ByteArray) (n : Nat) (w : World) (h : n < s.size) (hs : s.size ≤ 9223372036854775807) : Calls Tryz.prog 105 #[.string s, .int .i64 n] w fun e w' => e = .returned (.tuple #[.agg #[.int .i64 n, .int .i64 (wd s n), .int .i64 (rn s n)], .int .i64 0]) ∧ Below w.heap.size w w' := by
  have hz : (s.extract n s.size).size = s.size - n := by rw [ByteArray.size_extract]; omega
  have HE := decode_each (s.extract n s.size) n w (by omega) (by omega)
  rw [wd_extract, rn_extract] at HE
  simp only [Nat.add_zero] at HE
  clear hz
  unfold decW at HE
  go_enter Tryz.func105, Tryz.ntmps105
  go_wp2_with (go_at_call 115; refine HE.mono ?_; rintro e W ⟨rfl, hO⟩; have g0 := hO.cell _ (show (w.heap.size + 2, 0, Value.int .i64 n) ∈ _ by simp [decCells, fst3]); have g1 := hO.cell _ (show (w.heap.size + 2, 1, Value.int .i64 (wd s n)) ∈ _ by simp [decCells, fst3]); have g2 := hO.cell _ (show (w.heap.size + 2, 2, Value.int .i64 (rn s n)) ∈ _ by simp [decCells, fst3]); have j0 := hO.cell _ (show (w.heap.size + 1, 0, Value.int .i64 0) ∈ _ by simp [decCells]); have j1 := hO.cell _ (show (w.heap.size + 1, 1, Value.int .i64 0) ∈ _ by simp [decCells]); have j2 := hO.cell _ (show (w.heap.size + 1, 2, Value.int .i64 0) ∈ _ by simp [decCells]); have k0 := hO.free _ (show (w.heap.size + 1, 0, Value.int .i64 0) ∈ _ by simp [decCells]); have k1 := hO.free _ (show (w.heap.size + 1, 1, Value.int .i64 0) ∈ _ by simp [decCells]); have k2 := hO.free _ (show (w.heap.size + 1, 2, Value.int .i64 0) ∈ _ by simp [decCells]))
  refine bodyPost_ret (v := .tuple #[.agg #[.int .i64 n, .int .i64 (wd s n), .int .i64 (rn s n)], .int .i64 0]) (by simp [results, Tryz.results105, go_sem, j0, j1, j2]) rfl ⟨rfl, ?_⟩
  exact ((hO.below.setCell (by simp) _).setCell (by simp) _).setCell (by simp) _

end Go.Proofs.YtlgkfhipobdcfabGreatDoor

/- Code points and their encodings have one order; the walk of the law RunesOrder. -/
namespace Go.Proofs.YtlgkfhipobdcfabGreatDoor
open Go.RowKit

/-- The bytes of an encoding, as numbers. -/
def encL (r : Nat) : List Nat :=
  if r < 128 then [r]
  else if r < 2048 then [192 + r / 64, 128 + r % 64]
  else if r < 65536 then [224 + r / 4096, 128 + r / 64 % 64, 128 + r % 64]
  else [240 + r / 262144, 128 + r / 4096 % 64, 128 + r / 64 % 64, 128 + r % 64]
def lessL : List Nat → List Nat → Bool
  | _, [] => false
  | [], _ :: _ => true
  | a :: x, b :: y => decide (a < b) || (decide (a = b) && lessL x y)

theorem encB_iff (r : Int) : encB r = true ↔ 0 ≤ r ∧ r ≤ 1114111 ∧ (r < 55296 ∨ 57343 < r) := by simp [encB]
theorem encB_valid (r : Int) (h : encB r = true) : Utf8.valid r = true := by
  rw [encB_iff] at h
  simp [Utf8.valid]; omega

theorem encode_list (r : Int) (h : encB r = true) : (Utf8.encode r).toList = (encL r.toNat).map UInt8.ofNat := by
  rw [ByteArray.toList_eq]
  unfold Utf8.encode encL
  simp only [encB_valid r h, if_true]
  split
  · rfl
  · split
    · rfl
    · split <;> rfl

theorem encL_lt (r : Nat) (h : r ≤ 1114111) : ∀ x ∈ encL r, x < 256 := by
  unfold encL
  repeat' split
  all_goals (intro x hx; simp at hx; omega)

theorem less_map (x : List Nat) : ∀ y : List Nat, (∀ a ∈ x, a < 256) → (∀ a ∈ y, a < 256) → Op.bytesLess (x.map UInt8.ofNat) (y.map UInt8.ofNat) = lessL x y := by
  induction x with
  | nil => intro y _ _; cases y <;> rfl
  | cons a x ih =>
    intro y hx hy
    cases y with
    | nil => rfl
    | cons b y =>
      have ha := hx a (by simp)
      have hb := hy b (by simp)
      have h1 : (decide (UInt8.ofNat a < UInt8.ofNat b)) = decide (a < b) := by
        rw [decide_eq_decide, UInt8.lt_iff_toNat_lt]
        simp; omega
      have h2 : (UInt8.ofNat a == UInt8.ofNat b) = decide (a = b) := by
        rw [Bool.eq_iff_iff]
        simp only [beq_iff_eq, decide_eq_true_eq]
        constructor
        · intro h
          have := congrArg UInt8.toNat h
          simp at this
          omega
        · intro h; rw [h]
      simp only [List.map_cons, Op.bytesLess, lessL]
      rw [h1, h2, ih y (fun c hc => hx c (by simp [hc])) (fun c hc => hy c (by simp [hc]))]

theorem map_inj (x : List Nat) : ∀ y : List Nat, (∀ a ∈ x, a < 256) → (∀ a ∈ y, a < 256) → x.map UInt8.ofNat = y.map UInt8.ofNat → x = y := by
  induction x with
  | nil => intro y _ _ h; cases y <;> simp_all
  | cons a x ih =>
    intro y hx hy h
    cases y with
    | nil => simp at h
    | cons b y =>
      simp only [List.map_cons, List.cons.injEq] at h
      have ha := hx a (by simp)
      have hb := hy b (by simp)
      have := congrArg UInt8.toNat h.1
      simp at this
      rw [ih y (fun c hc => hx c (by simp [hc])) (fun c hc => hy c (by simp [hc])) h.2]
      congr 1
      omega

set_option maxHeartbeats 2000000 in
theorem encL_less (a b : Nat) (ha : a ≤ 1114111) (hb : b ≤ 1114111) : lessL (encL a) (encL b) = decide (a < b) := by
  unfold encL
  repeat' split
  all_goals (rw [Bool.eq_iff_iff]; first | (simp [lessL]; done) | (simp [lessL]; omega))
set_option maxHeartbeats 2000000 in
theorem encL_inj (a b : Nat) (ha : a ≤ 1114111) (hb : b ≤ 1114111) (h : encL a = encL b) : a = b := by
  unfold encL at h
  repeat' split at h
  all_goals first | (simp at h; done) | (simp at h; omega)

theorem order1 (a b : Int) (ha : encB a = true) (hb : encB b = true) : Op.bytesLess (encS a).toList (encS b).toList = decide (a < b) := by
  have h1 := (encB_iff a).1 ha
  have h2 := (encB_iff b).1 hb
  simp only [encS, ha, hb, if_true]
  rw [encode_list a ha, encode_list b hb, less_map _ _ (encL_lt _ (by omega)) (encL_lt _ (by omega)), encL_less _ _ (by omega) (by omega), decide_eq_decide]
  omega
theorem order2 (a b : Int) (ha : encB a = true) (hb : encB b = true) : ((encS a).toList == (encS b).toList) = decide (a = b) := by
  have h1 := (encB_iff a).1 ha
  have h2 := (encB_iff b).1 hb
  simp only [encS, ha, hb, if_true]
  rw [Bool.eq_iff_iff, beq_iff_eq, decide_eq_true_eq]
  constructor
  · intro h
    rw [encode_list a ha, encode_list b hb] at h
    have := encL_inj _ _ (by omega) (by omega) (map_inj _ _ (encL_lt _ (by omega)) (encL_lt _ (by omega)) h)
    omega
  · intro h; rw [h]

theorem beq_dec (a b : Int) : ((a == b) == decide (a = b)) = true := by
  by_cases h : a = b <;> simp [h]

end Go.Proofs.YtlgkfhipobdcfabGreatDoor

/- Plain arithmetic of whole numbers of 64 bits, for the layer 'words': the quotient rounded towards nought and its rest, put right; no program in it. -/
namespace Go.Proofs.YtlgkfhipobdcfabGreatDoor.W
open Go.RowKit

/-- The rest rounded towards nought, its size and its sign. -/
theorem tm_facts (a b : Int) (hb : b ≠ 0) : b * a.tdiv b + a.tmod b = a ∧ (a.tmod b).natAbs < b.natAbs ∧ (0 ≤ a → 0 ≤ a.tmod b) ∧ (a ≤ 0 → a.tmod b ≤ 0) := by
  refine ⟨Int.mul_tdiv_add_tmod a b, ?_, fun h => Int.tmod_nonneg b h, fun h => ?_⟩
  · rw [Int.natAbs_tmod]
    exact Nat.mod_lt _ (by omega)
  · have := Int.tmod_nonneg (a := -a) b (by omega)
    rw [Int.neg_tmod] at this
    omega

/-- How great the quotient is. -/
theorem td_bound (a b : Int) : (a.tdiv b).natAbs ≤ a.natAbs := by
  rw [Int.natAbs_tdiv]
  exact Nat.div_le_self _ _

theorem wrap64_id (x : Int) (h0 : -9223372036854775808 ≤ x) (h1 : x ≤ 9223372036854775807) : wrap64 x = x := by
  unfold wrap64; omega

end Go.Proofs.YtlgkfhipobdcfabGreatDoor.W

/- The walks of digit, hexadecimal and decimal: what each answers, as plain functions of the bytes. -/
namespace Go.Proofs.YtlgkfhipobdcfabGreatDoor.W
open Go.RowKit

def dgV (c : Int) : Int := if 48 ≤ c ∧ c ≤ 57 then c - 48 else if 97 ≤ c ∧ c ≤ 102 then c - 87 else if 65 ≤ c ∧ c ≤ 70 then c - 55 else 0
def dgB (c : Int) : Bool := decide (48 ≤ c ∧ c ≤ 57) || decide (97 ≤ c ∧ c ≤ 102) || decide (65 ≤ c ∧ c ≤ 70)
theorem dgV_bound (c : Int) : 0 ≤ dgV c ∧ dgV c ≤ 15 := by unfold dgV; repeat' split; all_goals omega

/-- The number of hexadecimal digits, modulo 2^64; are they all digits? -/
def hv (l : List UInt8) : Int := l.foldl (fun m c => (m * 16 + dgV c.toNat) % 18446744073709551616) 0
def allHex (l : List UInt8) : Bool := l.all fun c => dgB c.toNat
def hexE (l : List UInt8) : Int := if l.isEmpty || !allHex l then 4 else 0
def hexN (l : List UInt8) : Int := if l.isEmpty || !allHex l then 0 else hv l

/-- The number of decimal digits; are they all digits? -/
def dv (l : List UInt8) : Nat := l.foldl (fun m c => m * 10 + (dgV c.toNat).toNat) 0
def allDec (l : List UInt8) : Bool := l.all fun c => decide (48 ≤ (c.toNat : Int) ∧ (c.toNat : Int) ≤ 57)
def decE (l : List UInt8) (most : Int) : Int := if l.isEmpty || !allDec l then 4 else if most < dv l then 14 else 0
def decN (l : List UInt8) (most : Int) : Int := if l.isEmpty || !allDec l then 0 else if most < dv l then 0 else dv l

theorem take_snoc (s : ByteArray) (k : Nat) (h : k < s.size) : s.data.toList.take (k + 1) = s.data.toList.take k ++ [s[k]] := by
  rw [List.take_succ_eq_append_getElem (by simpa using h)]; rfl
theorem take_all (s : ByteArray) (k : Nat) (h : ¬ k < s.size) : s.data.toList.take k = s.data.toList := List.take_of_length_le (by simp; omega)
theorem hv_snoc (l : List UInt8) (c : UInt8) : hv (l ++ [c]) = (hv l * 16 + dgV c.toNat) % 18446744073709551616 := by simp [hv]
theorem hv_bound (l : List UInt8) : 0 ≤ hv l ∧ hv l ≤ 18446744073709551615 := by
  rcases List.eq_nil_or_concat l with h | ⟨l', c, rfl⟩
  · subst h; simp [hv]
  · rw [List.concat_eq_append, hv_snoc]; omega
theorem allHex_snoc (l : List UInt8) (c : UInt8) : allHex (l ++ [c]) = (allHex l && dgB c.toNat) := by simp [allHex]
theorem dv_snoc (l : List UInt8) (c : UInt8) : dv (l ++ [c]) = dv l * 10 + (dgV c.toNat).toNat := by simp [dv]
theorem allDec_snoc (l : List UInt8) (c : UInt8) : allDec (l ++ [c]) = (allDec l && decide (48 ≤ (c.toNat : Int) ∧ (c.toNat : Int) ≤ 57)) := by simp [allDec]
theorem mem_at (s : ByteArray) (k : Nat) (h : k < s.size) : s[k] ∈ s.data.toList := Array.getElem_mem_toList (xs := s.data) h
theorem not_all {s : ByteArray} {k : Nat} (h : k < s.size) {p : UInt8 → Bool} (hp : p s[k] = false) : s.data.toList.all p = false := by
  rw [List.all_eq_false]
  exact ⟨_, mem_at s k h, by simp [hp]⟩
theorem empty_data {s : ByteArray} (h : s.toList.isEmpty = false) : s.data.toList.isEmpty = false := by rw [← ByteArray.toList_eq]; exact h

theorem ret_ub {a b : Int} {c d : Bool} (h : a = b) (h' : c = d) : Ending.returned (.tuple #[.int .u64 a, .bool c]) = .returned (.tuple #[.int .u64 b, .bool d]) := by rw [h, h']
theorem ret_ui {a b c d : Int} (h : a = b) (h' : c = d) : Ending.returned (.tuple #[.int .u64 a, .int .i64 c]) = .returned (.tuple #[.int .u64 b, .int .i64 d]) := by rw [h, h']

set_option maxHeartbeats 400000 in
theorem digit_any (c : Int) (w : World) (h0 : 0 ≤ c) (h1 : c ≤ 255) : Calls Tryz.prog 106 #[.int .u8 c] w fun e w' => e = .returned (.tuple #[.int .u64 (dgV c), .bool (dgB c)]) ∧ w' = w := by
  go_enter Tryz.func106, Tryz.ntmps106
  go_wp2
  all_goals go_ret2
  all_goals (refine ⟨ret_ub ?_ ?_, rfl⟩)
  all_goals first | (unfold dgV; (repeat' split) <;> omega) | (symm; simp [dgB]; omega)

set_option maxHeartbeats 400000 in
theorem hex_none (s : ByteArray) (w : World) (hne : s.toList.isEmpty = true) : Calls Tryz.prog 97 #[.string s] w fun e w' => e = .returned (.tuple #[.int .u64 0, .int .i64 4]) ∧ w' = w := by
  go_enter Tryz.func97, Tryz.ntmps97
  go_wp2
  go_ret2
  exact ⟨rfl, rfl⟩

set_option maxHeartbeats 400000 in
theorem hex_some (s : ByteArray) (w : World) (hs : s.size ≤ maxLen) (hne : s.toList.isEmpty = false) : Calls Tryz.prog 97 #[.string s] w fun e w' => e = .returned (.tuple #[.int .u64 (hexN s.data.toList), .int .i64 (hexE s.data.toList)]) ∧ w' = w := by
  unfold maxLen at hs
  go_enter Tryz.func97, Tryz.ntmps97
  go_wp2
  go_loop [4, 12] (fun n i => ∃ k : Nat, k ≤ s.size ∧ i = .int .i64 k ∧ Hid (allHex (s.data.toList.take k) = true) ∧ ∃ m : Int, 0 ≤ m ∧ m ≤ 18446744073709551615 ∧ Hid (m = hv (s.data.toList.take k)) ∧ n = .int .u64 m) (fun _ i => s.size - (intOf i).toNat)
  case atStart => exact ⟨0, Nat.zero_le _, rfl, by simp [allHex, Hid], 0, by omega, by omega, by simp [hv, Hid], rfl⟩
  case round =>
    obtain ⟨k, hk, rfl, hA, m, hm0, hm1, hM, rfl⟩ := hrel
    by_cases hlt : k < s.size
    · cases hd : dgB s[k].toNat
      · have hx : allHex s.data.toList = false := not_all hlt hd
        have HX : Hid (allHex s.data.toList = false) := hx
        clear hx
        go_wp2_with (go_at_call 106; refine (digit_any _ _ (by omega) (by have := s[k].toNat_lt; omega)).mono ?_; rintro e w' ⟨rfl, rfl⟩)
        go_ret2
        exact ⟨ret_ui (by simp [hexN, HX.out]) (by simp [hexE, HX.out]), rfl⟩
      · have hb := dgV_bound s[k].toNat
        have HS : Hid (hv (s.data.toList.take (k + 1)) = (m * 16 + dgV s[k].toNat) % 18446744073709551616) := by
          show _ = _
          rw [take_snoc s k hlt, hv_snoc, ← hM.out]
        have HA : Hid (allHex (s.data.toList.take (k + 1)) = true) := by
          show _ = _
          rw [take_snoc s k hlt, allHex_snoc, hA.out, hd]; rfl
        go_wp2_with (go_at_call 106; refine (digit_any _ _ (by omega) (by have := s[k].toNat_lt; omega)).mono ?_; rintro e w' ⟨rfl, rfl⟩)
        go_round
        case rel =>
          refine ⟨k + 1, by omega, by go_num, HA, _, ?_, ?_, ?_, rfl⟩
          · rw [IntKind.wrap_u64]; omega
          · rw [IntKind.wrap_u64]; omega
          · show _ = _
            rw [HS.out]; simp only [IntKind.wrap_u64]; omega
        case measure => simp [intOf]; omega
    · have HT := take_all s k hlt
      rw [HT] at hA hM
      clear HT
      go_wp2
      go_ret2
      exact ⟨ret_ui (by rw [hM.out]; simp [hexN, hA.out, empty_data hne]) (by simp [hexE, hA.out, empty_data hne]), rfl⟩

theorem hex_any (s : ByteArray) (w : World) (hs : s.size ≤ maxLen) : Calls Tryz.prog 97 #[.string s] w fun e w' => e = .returned (.tuple #[.int .u64 (hexN s.data.toList), .int .i64 (hexE s.data.toList)]) ∧ w' = w := by
  cases h : s.toList.isEmpty
  · exact hex_some s w hs h
  · have h' : s.data.toList.isEmpty = true := by rw [← ByteArray.toList_eq]; exact h
    have e1 : hexN s.data.toList = 0 := by simp [hexN, h']
    have e2 : hexE s.data.toList = 4 := by simp [hexE, h']
    rw [e1, e2]
    exact hex_none s w h

end Go.Proofs.YtlgkfhipobdcfabGreatDoor.W

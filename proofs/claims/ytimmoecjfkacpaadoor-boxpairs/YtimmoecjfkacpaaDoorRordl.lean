/- The loop of the reference's Order. -/
import Derived.Test.YtimmoecjfkacpaaDoorRord
import Derived.StillTactics
namespace Go.Proofs.YtimmoecjfkacpaaDoor
open Go.RowKit

/-- The order of two texts, byte by byte, by recursion. -/
def cL : List UInt8 → List UInt8 → Int
  | [], [] => 0
  | [], _ :: _ => -1
  | _ :: _, [] => 1
  | c :: l, d :: m => if c.toNat < d.toNat then -1 else if d.toNat < c.toNat then 1 else cL l m
theorem cL_cS (l : List UInt8) : ∀ m, (if Op.bytesLess l m = true then -1 else if (l == m) = true then 0 else 1 : Int) = cL l m := by
  induction l with
  | nil => intro m; cases m <;> simp [Op.bytesLess, cL]
  | cons c l ih =>
    intro m
    cases m with
    | nil => simp [Op.bytesLess, cL]
    | cons d m =>
      have ih := ih m
      unfold cL
      by_cases h1 : c.toNat < d.toNat
      · have h2 : c < d := UInt8.lt_iff_toNat_lt.2 h1
        simp [Op.bytesLess, h1, h2]
      · have h2 : ¬ c < d := fun h => h1 (UInt8.lt_iff_toNat_lt.1 h)
        by_cases h3 : d.toNat < c.toNat
        · have h4 : ¬ c = d := fun e => by rw [e] at h3; omega
          simp [Op.bytesLess, h1, h2, h3, h4]
        · obtain rfl : c = d := UInt8.toNat_inj.1 (by omega)
          rw [if_neg h1, if_neg h3, ← ih]
          simp [Op.bytesLess]
theorem cS_cL (x y : ByteArray) : cS x y = cL x.toList y.toList := cL_cS _ _
theorem tl_eq (s : ByteArray) : s.toList = s.data.toList := ByteArray.toList_eq _
theorem tl_drop (s : ByteArray) (k : Nat) (h : k < s.size) : s.toList.drop k = s[k] :: s.toList.drop (k + 1) := by
  rw [tl_eq]
  have h2 : k < s.data.toList.length := by simpa using h
  rw [List.drop_eq_getElem_cons h2]
  rfl
theorem tl_end (s : ByteArray) (k : Nat) (h : s.size ≤ k) : s.toList.drop k = [] := by
  apply List.drop_of_length_le
  rw [tl_eq]
  simpa using h
theorem cd_lt (s t : ByteArray) (k : Nat) (h : k < s.size) (h' : k < t.size) (q : s[k].toNat < t[k].toNat) : cL (s.toList.drop k) (t.toList.drop k) = -1 := by
  rw [tl_drop s k h, tl_drop t k h', cL, if_pos q]
theorem cd_gt (s t : ByteArray) (k : Nat) (h : k < s.size) (h' : k < t.size) (q : t[k].toNat < s[k].toNat) : cL (s.toList.drop k) (t.toList.drop k) = 1 := by
  rw [tl_drop s k h, tl_drop t k h', cL, if_neg (by omega), if_pos q]
theorem cd_eq (s t : ByteArray) (k : Nat) (h : k < s.size) (h' : k < t.size) (q : s[k].toNat = t[k].toNat) : cL (s.toList.drop k) (t.toList.drop k) = cL (s.toList.drop (k + 1)) (t.toList.drop (k + 1)) := by
  rw [tl_drop s k h, tl_drop t k h', cL, if_neg (by omega), if_neg (by omega)]
theorem cd_lo (s t : ByteArray) (k : Nat) (h : s.size ≤ k) (h' : k < t.size) : cL (s.toList.drop k) (t.toList.drop k) = -1 := by
  rw [tl_end s k h, tl_drop t k h', cL]
theorem cd_hi (s t : ByteArray) (k : Nat) (h : k < s.size) (h' : t.size ≤ k) : cL (s.toList.drop k) (t.toList.drop k) = 1 := by
  rw [tl_end t k h', tl_drop s k h, cL]
theorem cd_nn (s t : ByteArray) (k : Nat) (h : s.size ≤ k) (h' : t.size ≤ k) : cL (s.toList.drop k) (t.toList.drop k) = 0 := by
  rw [tl_end t k h', tl_end s k h, cL]
theorem rett {a b : Int} (h : a = b) (e : Value) : Ending.returned (.tuple #[.int .i64 a, e]) = .returned (.tuple #[.int .i64 b, e]) := by rw [h]
theorem At.drew {w : World} {g : Nat} {k n : Int} {s : ByteArray} (h : At w g k n s) : At w.drew g k n s := h.below (Below.refl _ _).drew

theorem wp_still_d {P : Program} {id : Nat} {Q : Exit → Act → World → Prop} {a : Act} {w : World} {l : List Oper} (hm : P.follows .mixedOrders = true) (hB : Region.lexB .any l.toArray = true)
    (h : wpStill P l.toArray w.drew (fun a' => Q .normal a' w.drew) l a) : (Code.region id l.toArray true).wp P Q a w := wp_region_still_lit hm hB h

set_option maxRecDepth 20000 in
set_option maxHeartbeats 1000000 in
theorem rorder_ss (s s' : ByteArray) (RB : ∀ w, Calls Tryd.prog 29 #[vl 3 0 s, vl 3 0 s'] w fun e w' => e = .returned (.int .i64 0) ∧ Below w.heap.size w w') (hs : s.size ≤ 10000) (hs' : s'.size ≤ 10000) (w : World) : Calls Tryd.prog 27 #[vl 3 0 s, vl 3 0 s'] w fun e w' => e = .returned (.tuple #[.int .i64 (cS s s'), .int .i64 0]) ∧ Below w.heap.size w w' := by
  unfold vl at *
  go_enter Tryd.func27, Tryd.ntmps27
  go_wp2_with fail
  have A := At.new w 3 0 s
  unfold vb at A
  replace A := A.alloc (.cells #[.int .i64 3, .int .i64 0, .string s'] 23)
  have C := At.new (w.alloc (.cells #[.int .i64 3, .int .i64 0, .string s] 23)) 3 0 s'
  unfold vb at C
  have B := b2 w (.cells #[.int .i64 3, .int .i64 0, .string s] 23) (.cells #[.int .i64 3, .int .i64 0, .string s'] 23)
  simp at C
  generalize ((w.alloc (.cells #[.int .i64 3, .int .i64 0, .string s] 23)).alloc (.cells #[.int .i64 3, .int .i64 0, .string s'] 23)) = w0 at *
  obtain ⟨V, hV⟩ : ∃ V, w.heap.size = V := ⟨_, rfl⟩
  rw [hV] at A C B ⊢
  obtain ⟨A0, A1, A2, Al⟩ := id A
  obtain ⟨C0, C1, C2, Cl⟩ := id C
  refine (RB _).mono ?_
  rintro e w1 ⟨rfl, hb⟩
  replace B := bthen B (by have := A.lt; omega) hb
  replace A := A.below hb
  replace C := C.below hb
  clear A0 A1 A2 Al C0 C1 C2 Cl
  clear hb
  obtain ⟨A0, A1, A2, Al⟩ := id A
  obtain ⟨C0, C1, C2, Cl⟩ := id C
  go_wp2_with fail
  go_loopw [6] (fun i wr => ∃ k : Nat, i = .int .i64 k ∧ k ≤ s.size ∧ k ≤ s'.size ∧ Hid (cS s s' = cL (s.toList.drop k) (s'.toList.drop k)) ∧ Hid (Below V w wr) ∧ Hid (At wr V 3 0 s) ∧ Hid (At wr (V + 1) 3 0 s')) (fun i _ => s.size - (intOf i).toNat)
  case atStart => exact ⟨0, rfl, by omega, by omega, cS_cL s s', B, A, C⟩
  case round =>
    clear A0 A1 A2 Al C0 C1 C2 Cl A C B RB
    obtain ⟨k, rfl, hk, hk', HM, HB, HA, HC⟩ := hrel
    obtain ⟨A0, A1, A2, Al⟩ := id HA.out
    obtain ⟨C0, C1, C2, Cl⟩ := id HC.out
    by_cases hlt : k < s.size
    · by_cases hlt' : k < s'.size
      · rcases Nat.lt_trichotomy s[k].toNat s'[k].toNat with hq | hq | hq
        · have HX : Hid _ := HM.out.trans (cd_lt s s' k hlt hlt' hq)
          have hqi : ((s[k].toNat : Nat) : Int) < ((s'[k].toNat : Nat) : Int) := by omega
          go_wp2
          go_still (by kernel_rfl)
          go_wp2
          go_ret2
          exact ⟨rett HX.out.symm _, hV.symm ▸ HB.out.drew⟩
        · have HX : Hid _ := HM.out.trans (cd_eq s s' k hlt hlt' hq)
          have hqi : ¬ ((s[k].toNat : Nat) : Int) < ((s'[k].toNat : Nat) : Int) := by omega
          have hqj : ¬ ((s'[k].toNat : Nat) : Int) < ((s[k].toNat : Nat) : Int) := by omega
          go_wp2
          refine wp_still_d (by kernel_rfl) (by kernel_rfl) ?_
          repeat still_step
          refine wpStill_nil ?_
          clear A0 A1 A2 Al C0 C1 C2 Cl
          have HA2 : Hid _ := HA.out.drew
          have HC2 : Hid _ := HC.out.drew
          have HB2 : Hid _ := HB.out.drew
          clear HA HC HB
          generalize wr.drew = w2 at *
          obtain ⟨A0, A1, A2, Al⟩ := id HA2.out
          obtain ⟨C0, C1, C2, Cl⟩ := id HC2.out
          go_wp2
          refine wp_still_d (by kernel_rfl) (by kernel_rfl) ?_
          repeat still_step
          refine wpStill_nil ?_
          go_wp2
          go_roundw
          case rel => exact ⟨k + 1, by go_num, by omega, by omega, HX, HB2.out.drew, HA2.out.drew, HC2.out.drew⟩
          case measure => simp [intOf]; omega
        · have HX : Hid _ := HM.out.trans (cd_gt s s' k hlt hlt' hq)
          have hqi : ¬ ((s[k].toNat : Nat) : Int) < ((s'[k].toNat : Nat) : Int) := by omega
          have hqj : ((s'[k].toNat : Nat) : Int) < ((s[k].toNat : Nat) : Int) := by omega
          go_wp2
          refine wp_still_d (by kernel_rfl) (by kernel_rfl) ?_
          repeat still_step
          refine wpStill_nil ?_
          clear A0 A1 A2 Al C0 C1 C2 Cl
          have HA2 : Hid _ := HA.out.drew
          have HC2 : Hid _ := HC.out.drew
          have HB2 : Hid _ := HB.out.drew
          clear HA HC HB
          generalize wr.drew = w2 at *
          obtain ⟨A0, A1, A2, Al⟩ := id HA2.out
          obtain ⟨C0, C1, C2, Cl⟩ := id HC2.out
          go_wp2
          refine wp_still_d (by kernel_rfl) (by kernel_rfl) ?_
          repeat still_step
          refine wpStill_nil ?_
          go_wp2
          go_ret2
          exact ⟨rett HX.out.symm _, hV.symm ▸ HB2.out.drew⟩
      · have HX : Hid _ := HM.out.trans (cd_hi s s' k hlt (by omega))
        go_wp2
        go_ret2
        exact ⟨rett HX.out.symm _, hV.symm ▸ HB.out⟩
    · by_cases hlt' : k < s'.size
      · have HX : Hid _ := HM.out.trans (cd_lo s s' k (by omega) hlt')
        go_wp2
        go_ret2
        exact ⟨rett HX.out.symm _, hV.symm ▸ HB.out⟩
      · have HX : Hid _ := HM.out.trans (cd_nn s s' k (by omega) (by omega))
        go_wp2
        go_ret2
        exact ⟨rett HX.out.symm _, hV.symm ▸ HB.out⟩

end Go.Proofs.YtimmoecjfkacpaaDoor

/- The walks of addString and escape. -/
import Derived.Test.YtlgkfhipobdcfabGreatDoorCg04
import Derived.Lib.AppendStr
import Derived.Lib.UnsafeStr
import Derived.Deep.RegionLaw
import Derived.Test.YtlgkfhipobdcfabGreatDoorCg03
import Derived.Laws.BytesArg
import Derived.BigRegion
namespace Go.Proofs.YtlgkfhipobdcfabGreatDoor
open Go.RowKit

set_option maxRecDepth 20000 in
theorem conv_row {W : World} {base : Nat} {v : Value} {l : List UInt8} (h : W.ownsRow base 5 1 v l.length (Lib.byteCells l)) : (convert 63 9 v).run Tryz.prog W = .ok (.string ⟨l.toArray⟩) W := by
  rcases h.2 with ⟨rfl, h0⟩ | ⟨g, cap, cur, rfl, _, hg, hc1, _, hc3, htk⟩
  · have : l = [] := List.eq_nil_of_length_eq_zero h0
    subst this
    exact run_convert_bytes_nil W 63 5 Tryz.underlying63 Tryz.underlying5 0 0 9 Tryz.underlying9
  · have hr := run_convert_bytes_arg (P := Tryz.prog) W 63 5 Tryz.underlying63 Tryz.underlying5 g 0 l.length cap (l.map fun b => (b.toNat : Int)) (by simp) (fun i hi => by
      have := Lib.cells_of_row hg l.length i (.int .u8 (l[i]).toNat) (by rw [Nat.mul_one] at htk; rw [htk]; simp [Lib.byteCells, hi])
      rw [Nat.zero_add]
      have e : (l.map fun b => (b.toNat : Int)).getD i 0 = (l[i]).toNat := by simp [List.getD, hi]
      rw [e]
      by_cases hi0 : i = 0
      · subst hi0; simpa [Addr.add] using this
      · simpa [Addr.add, hi0] using this) 9 Tryz.underlying9
    rw [hr]
    congr 2
    unfold strOfNums
    rw [List.map_map]
    congr 2
    have : ((fun n : Int => UInt8.ofNat n.toNat) ∘ fun b : UInt8 => (b.toNat : Int)) = id := by funext b; simp
    rw [this, List.map_id]

set_option maxRecDepth 100000 in
set_option maxHeartbeats 3200000 in
theorem addString_any (b B B2 : Nat) (s : ByteArray) (ts : List Tok) (V : World) (h : SC b B s ts V) (p : Nat) (v : Value) (l : List UInt8) (hv0 : V.ownsRow B2 5 1 v l.length (Lib.byteCells l)) (hl : l.length ≤ 1000000) (hn : ts.length ≤ 20000) :
    Calls Tryz.prog 75 #[.pointer (some ⟨b, 0, none⟩), .int .i64 p, v] V fun e W' => (10000 < l.length → e = refu 14 p ∧ Kp b B V W') ∧ (¬ 10000 < l.length → e = .returned (.tuple #[]) ∧ SC b B s (ts ++ [⟨4, l, 0, p⟩]) W' ∧ Kp b B V W') := by
  obtain ⟨i0, hi0, hz0, hz1, hz2⟩ := info_parts Tryz.info56
  have hcv := conv_row hv0
  have hcv2 := conv_row hv0.drew
  obtain ⟨av, cv, rfl⟩ := slice_shape hv0
  obtain ⟨v, hv, hown⟩ := h.tok
  obtain ⟨a0, c0, rfl⟩ := slice_shape hown
  have hsrc := h.src
  have hfr := h.free
  obtain ⟨hbB, hBW⟩ := h.lt
  have hlt : b < V.heap.size := by omega
  have hne : some b ≠ (Value.slice a0 ts.length c0).ownBlock := fun e => by have := (hown.lt b e.symm).1; omega
  have hrow : ∀ j, (Value.slice a0 ts.length c0).ownBlock = some j → B ≤ j := fun j e => (hown.lt j e).1
  have hsa := fun o => alloc_cell (W := V) (b := b) hlt hsrc o
  have hva := fun o => alloc_cell (W := V) (b := b) hlt hv o
  have hfa := fun o => alloc_frozen (W := V) (b := b) hlt hfr o
  by_cases hb : 10000 < l.length
  · go_enter Tryz.func75, Tryz.ntmps75
    go_wp2_with (go_at_call 72; refine (refuse_any _ _ _).mono ?_; rintro e w' ⟨he, rfl⟩; unfold refu at he; subst he)
    exact ⟨rfl, fun _ => ⟨rfl, Kp.refl _ _ _⟩, fun hc => absurd hb hc⟩
  · go_enter Tryz.func75, Tryz.ntmps75
    go_wp2_with fail
    go_region_law ((refine step_append_lies _ (by rfl) _ _ _ (by rfl) B 56 i0 _ 4 40 Tryz.underlying36 hi0 hz0 hz1 hz2 rfl (by omega) (.slice a0 ts.length c0) ts.length (cellsT ts) (by rfl) (by first | exact (hown.alloc _).drew | exact hown.alloc _) ⟨V.heap.size, 0, none⟩ 1 1 [.int .i64 4, .string ⟨l.toArray⟩, .int .i64 0, .int .i64 p] (by rfl) (by rfl) (World.news_of_block (cs := #[.int .i64 4, .string ⟨l.toArray⟩, .int .i64 0, .int .i64 p]) (t := 56) (fr := (0, 0)) (heap_alloc_new V _)) (by simp [Value.oneCell']) (by omega) (by unfold maxLen; omega) (by omega) (by simp; omega) (V.heap.size + 1) (by simp) ?_; intro gg cap w2 hown1 hgrow hat hlt2; have hs2 : w2.cell? ⟨b, 0, none⟩ = some (.string s) := (hgrow.cell_far ⟨b, 0, none⟩ (by simp; omega) hne).trans (hsa _); have hv2 : w2.cell? ⟨b, 1, none⟩ = some (.slice a0 ts.length c0) := (hgrow.cell_far ⟨b, 1, none⟩ (by simp; omega) hne).trans (hva _); have hf2 : w2.frozen? ⟨b, 1, none⟩ = false := (hgrow.frozen_far ⟨b, 1, none⟩ (by simp; omega) hne).trans (hfa _)))
    all_goals
      go_wp2
      go_end0
      have K2 : Kp b B V w2 := (((Kp.refl b B V).alloc hBW _).drew).grown hgrow (by simp; omega) hrow
      exact ⟨fun hc => absurd hc hb, fun _ => ⟨rfl, h.added K2 hs2 hv2 hf2 (by simp) hown1⟩⟩

theorem encS_le (r : Int) : (encS r).data.toList.length ≤ 4 := by
  cases h : encB r
  · simp [encS, h]
  · rw [Array.length_toList]
    have := encS_size r h
    have h2 := (encL_len r.toNat).2.1
    have h3 : (encS r).data.size = (encS r).size := rfl
    omega
theorem esc_le : ∀ l : List UInt8, (esc l).2 ≤ 11 ∧ (esc l).1.length ≤ 4
  | [] => by simp [esc]
  | c :: u => by
    simp only [esc]
    split
    · simp
    split
    · simp
    split
    · simp
    split
    · simp
    split
    · unfold escX; split <;> simp
    split
    · unfold escU
      split
      · have := hxs_len 8 (u.drop 1)
        exact ⟨by simp only; omega, encS_le _⟩
      · simp
    · unfold escD
      split
      · simp
      · have := dgs_len 3 (c :: u)
        exact ⟨by simp only; omega, by simp⟩

theorem esc_len4 (l : List UInt8) : (esc l).1.length ≤ 4 := (esc_le l).2

set_option maxHeartbeats 1000000 in
theorem escape_any (b : Nat) (s : ByteArray) (V : World) (hsrc : V.cell? ⟨b, 0, none⟩ = some (.string s)) (o p : Nat) (hp : p < s.size) (hs : s.size ≤ 20000) :
    Calls Tryz.prog 76 #[.pointer (some ⟨b, 0, none⟩), .int .i64 o, .int .i64 p] V fun e W' => Below V.heap.size V W' ∧ (LD s (p + 1) = [] → e = refu 4 o) ∧ (LD s (p + 1) ≠ [] → (esc (LD s (p + 1))).2 = 0 → e = refu 4 p) ∧
      (LD s (p + 1) ≠ [] → (esc (LD s (p + 1))).2 ≠ 0 → e = .returned (.tuple #[.string ⟨(esc (LD s (p + 1))).1.toArray⟩, .int .i64 ((p + 1 + (esc (LD s (p + 1))).2 : Nat) : Int)])) := by
  have hle : (esc (LD s (p + 1))).2 ≤ 11 := (esc_le _).1
  cases hL : LD s (p + 1) with
  | nil =>
    have he : (s.extract (p + 1) s.size).toList.isEmpty = true := by rw [ByteArray.toList_eq, ext_end, hL]; rfl
    clear hL hle
    go_enter Tryz.func76, Tryz.ntmps76
    go_wp2_with (go_at_call 72; refine (refuse_any _ _ _).mono ?_; rintro e w' ⟨he, rfl⟩; unfold refu at he; subst he)
    exact ⟨rfl, Below.refl _ _, fun _ => rfl, fun hc => absurd rfl hc, fun hc => absurd rfl hc⟩
  | cons c u =>
    have he : (s.extract (p + 1) s.size).toList.isEmpty = false := by rw [ByteArray.toList_eq, ext_end, hL]; rfl
    have C1 := fun w => escaped_any (s.extract (p + 1) s.size) c u w (ext_size _ _ _ hs) (by rw [ext_end, hL])
    rw [hL] at hle
    unfold ansE at C1
    obtain ⟨x, hx⟩ : ∃ x, esc (c :: u) = x := ⟨_, rfl⟩
    rw [hx] at C1 hle ⊢
    obtain ⟨y, n⟩ := x
    simp only at C1 hle ⊢
    clear hL hx
    by_cases hz : n = 0
    · subst hz
      go_enter Tryz.func76, Tryz.ntmps76
      go_wp2_with (first
        | (go_at_call 72; refine (refuse_any _ _ _).mono ?_; rintro e w' ⟨he, rfl⟩; unfold refu at he; subst he)
        | (go_at_call 88; refine (C1 _).mono ?_; rintro e w1 ⟨rfl, hb⟩))
      exact ⟨rfl, hb, fun hc => (by cases hc), fun _ _ => rfl, fun _ hc => absurd rfl hc⟩
    · have hz' : ((n : Int) == 0) = false := by simpa using hz
      go_enter Tryz.func76, Tryz.ntmps76
      go_wp2_with (go_at_call 88; refine (C1 _).mono ?_; rintro e w1 ⟨rfl, hb⟩)
      go_ret2
      exact ⟨hb, fun hc => (by cases hc), fun _ hc => absurd hc hz, fun _ _ => ret_si' rfl (by omega)⟩

end Go.Proofs.YtlgkfhipobdcfabGreatDoor

/- Plain facts on strings (no program in it): what an escape takes of the text; bytes that are passed over one by one. -/
namespace Go.Proofs.YtlgkfhipobdcfabGreatDoor
open Go.RowKit

theorem hxs_prefix (m : Nat) (l : List UInt8) : l.take (hxs m l).length = hxs m l := by
  unfold hxs
  rw [takeWhile_take, List.length_take]
  congr 1
  have := (List.takeWhile_sublist (l := l) (fun c : UInt8 => W.dgB c.toNat)).length_le
  omega
theorem dgs_prefix (m : Nat) (l : List UInt8) : l.take (dgs m l).length = dgs m l := by
  unfold dgs
  rw [takeWhile_take, List.length_take]
  congr 1
  have := (List.takeWhile_sublist (l := l) (fun c : UInt8 => decide (48 ≤ (c.toNat : Int) ∧ (c.toNat : Int) ≤ 57))).length_le
  omega
theorem hxs_length (m : Nat) (l : List UInt8) : (hxs m l).length ≤ l.length := by
  have := congrArg List.length (hxs_prefix m l)
  rw [List.length_take] at this
  omega
theorem dgs_length (m : Nat) (l : List UInt8) : (dgs m l).length ≤ l.length := by
  have := congrArg List.length (dgs_prefix m l)
  rw [List.length_take] at this
  omega
theorem hxs_asc (m : Nat) (l : List UInt8) : ∀ x ∈ hxs m l, x.toNat < 128 := fun x hx => by
  have h := List.all_eq_true.1 (hxs_all m l) x hx
  simp only [W.dgB, Bool.or_eq_true, decide_eq_true_eq] at h
  omega
theorem dgs_asc (m : Nat) (l : List UInt8) : ∀ x ∈ dgs m l, x.toNat < 128 := fun x hx => by
  have h := List.all_eq_true.1 (dgs_all m l) x hx
  simp only [decide_eq_true_eq] at h
  omega

/-- What an escape takes of the text: it is there, and its bytes are all below 128. -/
theorem esc_take : ∀ l : List UInt8, (esc l).2 ≤ l.length ∧ ∀ x ∈ l.take (esc l).2, x.toNat < 128
  | [] => by simp [esc]
  | c :: u => by
    have one : ∀ n : Nat, c.toNat = n → n < 128 → (1 ≤ (c :: u).length ∧ ∀ x ∈ (c :: u).take 1, x.toNat < 128) := fun n h1 h2 => by
      refine ⟨by simp, fun x hx => ?_⟩
      simp at hx
      rw [hx, h1]; exact h2
    simp only [esc]
    split
    · rename_i h; exact one 110 h (by omega)
    split
    · rename_i h; exact one 116 h (by omega)
    split
    · rename_i h; exact one 114 h (by omega)
    split
    · rename_i h
      rcases h with h | h | h
      · exact one 92 h (by omega)
      · exact one 34 h (by omega)
      · exact one 39 h (by omega)
    split
    · rename_i h
      unfold escX
      split
      · rename_i h2
        have h3 := hxs_length 2 u
        have h4 := hxs_prefix 2 u
        rw [h2] at h4
        refine ⟨by simp; omega, fun x hx => ?_⟩
        simp only [List.take_succ_cons, List.mem_cons] at hx
        rcases hx with rfl | hx
        · omega
        · rw [h4] at hx; exact hxs_asc 2 u x hx
      · simp
    split
    · rename_i h
      unfold escU
      split
      · rename_i h2
        obtain ⟨a1, _, _, a2⟩ := h2
        cases u with
        | nil => exact absurd a1 (by decide)
        | cons d v =>
          simp only [List.headD_cons] at a1
          simp only [List.drop_succ_cons, List.drop_zero] at *
          rw [Nat.add_comm, List.drop_succ_cons] at a2
          have h4 := hxs_prefix 8 v
          have h3 : (hxs 8 v).length < v.length := by
            rcases Nat.lt_or_ge (hxs 8 v).length v.length with hl | hl
            · exact hl
            · rw [List.drop_of_length_le hl] at a2; exact absurd a2 (by decide)
          refine ⟨by simp; omega, fun x hx => ?_⟩
          simp only [List.take_succ_cons, List.mem_cons] at hx
          rcases hx with rfl | rfl | hx
          · omega
          · rw [a1]; decide
          · rw [List.take_succ_eq_append_getElem h3, h4, List.mem_append, List.mem_singleton] at hx
            rcases hx with hx | rfl
            · exact hxs_asc 8 v x hx
            · rw [List.drop_eq_getElem_cons h3] at a2
              simp only [List.headD_cons] at a2
              rw [a2]; decide
      · simp
    · unfold escD
      split
      · simp
      · refine ⟨dgs_length 3 _, fun x hx => ?_⟩
        simp only at hx
        rw [dgs_prefix] at hx
        exact dgs_asc 3 _ x hx

/-- Bytes that say nothing are passed over. -/
theorem qt_pass (q : UInt8) : ∀ (n : Nat) (l : List UInt8) (i : Nat) (acc : List UInt8), n ≤ l.length → (∀ x ∈ l.take n, x.toNat ≠ 10 ∧ x ≠ q ∧ x.toNat ≠ 92) → qt q l i acc = qt q (l.drop n) (i + n) (acc ++ l.take n)
  | 0, l, i, acc, _, _ => by simp
  | n + 1, [], i, acc, h, _ => by simp at h
  | n + 1, c :: t, i, acc, h, hx => by
    obtain ⟨h1, h2, h3⟩ := hx c (by simp)
    have ih := qt_pass q n t (i + 1) (acc ++ [c]) (by simpa using h) (fun x hm => hx x (by simp [hm]))
    rw [qt, if_neg h1, if_neg h2, if_neg h3, ih]
    simp only [List.drop_succ_cons, List.take_succ_cons, List.append_assoc, List.cons_append, List.nil_append]
    congr 1
    omega
theorem qt_nil (q : UInt8) (i : Nat) (acc : List UInt8) : qt q [] i acc = .bad 4 0 := by rw [qt]
theorem qt_nl (q c : UInt8) (t : List UInt8) (i : Nat) (acc : List UInt8) (h : c.toNat = 10) : qt q (c :: t) i acc = .bad 4 0 := by rw [qt, if_pos h]
theorem qt_end (q c : UInt8) (t : List UInt8) (i : Nat) (acc : List UInt8) (h : c = q) (hq : q.toNat ≠ 10) : qt q (c :: t) i acc = if 10000 < acc.length then .bad 14 0 else .ok acc (i + 1) := by
  rw [qt, if_neg (by rw [h]; exact hq), if_pos h]
theorem qt_esc (q c : UInt8) (t : List UInt8) (i : Nat) (acc : List UInt8) (h : c.toNat = 92) (hq : q.toNat ≠ 92) :
    qt q (c :: t) i acc = if t = [] then .bad 4 0 else if (esc t).2 = 0 then .bad 4 i else qt q (t.drop (esc t).2) (i + 1 + (esc t).2) (acc ++ (esc t).1) := by
  have h2 : ¬ c = q := fun e => hq (by rw [← e]; exact h)
  rw [qt, if_neg (by omega), if_neg h2, if_pos h]

end Go.Proofs.YtlgkfhipobdcfabGreatDoor

/- The walk of the reference's read, and with it of its Parse and Read. -/
namespace Go.Proofs.YtlgkfhipobdcfabGreatDoor.W
open Go.RowKit

/-- What a digit is worth to the reference: -1 where it is none. -/
def wHex (c : Int) : Int := if dgB c = true then dgV c else -1
def wDec (c : Int) : Int := if 48 ≤ c ∧ c ≤ 57 then c - 48 else -1
theorem wHex_lo (c : Int) : -1 ≤ wHex c ∧ wHex c ≤ 15 := by unfold wHex; have := dgV_bound c; split <;> omega
theorem ret1 {a b : Int} (h : a = b) : Ending.returned (.int .i64 a) = .returned (.int .i64 b) := by rw [h]

/-- The reference's number of hexadecimal digits. -/
def rhv (l : List UInt8) : Int := l.foldl (fun m c => wrap64 (wrap64 (m * 16) + wHex c.toNat)) 0
theorem rhv_snoc (l : List UInt8) (c : UInt8) : rhv (l ++ [c]) = wrap64 (wrap64 (rhv l * 16) + wHex c.toNat) := by simp [rhv]
theorem rhv_acc (l : List UInt8) : ∀ m m', m = wrap64 m' → allHex l = true → l.foldl (fun m c => wrap64 (wrap64 (m * 16) + wHex c.toNat)) m = wrap64 (l.foldl (fun m c => (m * 16 + dgV c.toNat) % 18446744073709551616) m') := by
  induction l with
  | nil => intro m m' h _; exact h
  | cons c l ih =>
    intro m m' h hl
    have hl' : dgB c.toNat = true ∧ allHex l = true := by simpa [allHex] using hl
    simp only [List.foldl_cons]
    refine ih _ _ ?_ hl'.2
    have : wHex c.toNat = dgV c.toNat := by unfold wHex; rw [if_pos hl'.1]
    rw [this, h]
    unfold wrap64
    omega
theorem rhv_hv (l : List UInt8) (h : allHex l = true) : rhv l = wrap64 (hv l) := rhv_acc l 0 0 (by unfold wrap64; omega) h

theorem ne_list {x : ByteArray} (h : ¬ x.size = 0) : x.data.toList.isEmpty = false := by
  cases hl : x.data.toList with
  | nil =>
    exfalso; apply h
    have := congrArg List.length hl
    simpa using this
  | cons a l => rfl
theorem nil_list {x : ByteArray} (h : x.size = 0) : x.data.toList.isEmpty = true := by
  have : x.data.toList.length = 0 := by simpa using h
  rw [List.isEmpty_iff]
  exact List.eq_nil_of_length_eq_zero this

/-- The answers for a hexadecimal text x, behind a sign or not. -/
def rhN (l : List UInt8) (neg : Bool) : Int := if neg then wrap64 (-(wrap64 (hexN l))) else wrap64 (hexN l)

/-! ### decimal -/
theorem dv_mono (a b : List UInt8) : dv a ≤ dv (a ++ b) := by
  unfold dv
  rw [List.foldl_append]
  generalize a.foldl (fun m c => m * 10 + (dgV (c : UInt8).toNat).toNat) 0 = m
  induction b generalizing m with
  | nil => exact Nat.le_refl _
  | cons c b ih =>
    simp only [List.foldl_cons]
    exact Nat.le_trans (by omega) (ih _)
theorem dv_take (l : List UInt8) (k : Nat) : dv (l.take k) ≤ dv l := by
  have := dv_mono (l.take k) (l.drop k)
  rwa [List.take_append_drop] at this

theorem td10 (d m : Int) (h0 : 0 ≤ d) (h1 : d ≤ 9) : m < (-9223372036854775808 + d).tdiv 10 ↔ m * 10 - d < -9223372036854775808 := by
  have e : -9223372036854775808 + d = -(9223372036854775808 - d) := by omega
  rw [e, Int.neg_tdiv, Int.tdiv_eq_ediv_of_nonneg (by omega)]
  omega

/-- The answers for a decimal text. -/
def rdN (l : List UInt8) (neg : Bool) : Int := if neg then wrap64 (-(wrap64 (decN l 9223372036854775808))) else wrap64 (decN l 9223372036854775807)
def rdE (l : List UInt8) (neg : Bool) : Int := if neg then decE l 9223372036854775808 else decE l 9223372036854775807

theorem rd_bad (l : List UInt8) (neg : Bool) (h : l.isEmpty = true ∨ allDec l = false) : rdN l neg = 0 ∧ rdE l neg = 4 := by
  have e : ∀ most, decN l most = 0 ∧ decE l most = 4 := fun most => by rcases h with h | h <;> simp [decN, decE, h]
  unfold rdN rdE
  rw [(e _).1, (e _).1, (e _).2, (e _).2]
  cases neg <;> (simp; try (unfold wrap64; omega))
theorem rd_big (l : List UInt8) (neg : Bool) (h : allDec l = true) (hn : l.isEmpty = false) (hb : 9223372036854775808 < dv l) : rdN l neg = 0 ∧ rdE l neg = 14 := by
  have e : ∀ most : Int, most ≤ 9223372036854775808 → decN l most = 0 ∧ decE l most = 14 := fun most hm => by
    simp only [decN, decE, h, hn, Bool.not_true, Bool.or_self, Bool.false_eq_true, if_false]
    rw [if_pos (by omega), if_pos (by omega)]; exact ⟨rfl, rfl⟩
  unfold rdN rdE
  rw [(e _ (by omega)).1, (e _ (by omega)).1, (e _ (by omega)).2, (e _ (by omega)).2]
  cases neg <;> (simp; try (unfold wrap64; omega))
theorem rd_neg (l : List UInt8) (h : allDec l = true) (hn : l.isEmpty = false) (hb : dv l ≤ 9223372036854775808) : rdN l true = -(dv l : Int) ∧ rdE l true = 0 := by
  simp only [rdN, rdE, decN, decE, h, hn, Bool.not_true, Bool.or_self, Bool.false_eq_true, if_false, if_true]
  rw [if_neg (by omega), if_neg (by omega)]
  exact ⟨by unfold wrap64; omega, rfl⟩
theorem rd_pos (l : List UInt8) (h : allDec l = true) (hn : l.isEmpty = false) (hb : dv l < 9223372036854775808) : rdN l false = (dv l : Int) ∧ rdE l false = 0 := by
  simp only [rdN, rdE, decN, decE, h, hn, Bool.not_true, Bool.or_self, Bool.false_eq_true, if_false]
  rw [if_neg (by omega), if_neg (by omega)]
  exact ⟨by unfold wrap64; omega, rfl⟩
theorem rd_edge (l : List UInt8) (h : allDec l = true) (hn : l.isEmpty = false) (hb : dv l = 9223372036854775808) : rdN l false = 0 ∧ rdE l false = 14 := by
  simp only [rdN, rdE, decN, decE, h, hn, Bool.not_true, Bool.or_self, Bool.false_eq_true, if_false]
  rw [if_pos (by omega), if_pos (by omega)]
  exact ⟨by unfold wrap64; omega, rfl⟩

/-- How the text opens: not as a hexadecimal numeral. -/
def PlainHead (s : ByteArray) : Prop :=
  (¬ 2 ≤ s.size) ∨ (∃ h : 2 ≤ s.size, (((s[0]'(by omega)).toNat : Int) == 48) = false) ∨ (∃ h : 2 ≤ s.size, (((s[0]'(by omega)).toNat : Int) == 48) = true ∧ (((s[1]'(by omega)).toNat : Int) == 120) = false ∧ (((s[1]'(by omega)).toNat : Int) == 88) = false)

/-! ### Parse and Read, by the reference -/
theorem head_cases (s : ByteArray) : (hexP s.data.toList = true ∧ ∃ h : 2 ≤ s.size, (((s[0]'(by omega)).toNat : Int) == 48) = true ∧ ((((s[1]'(by omega)).toNat : Int) == 120) = true ∨ ((((s[1]'(by omega)).toNat : Int) == 120) = false ∧ (((s[1]'(by omega)).toNat : Int) == 88) = true)))
    ∨ (hexP s.data.toList = false ∧ PlainHead s) := by
  have hx := hexP_iff s
  cases hp : hexP s.data.toList
  · right
    refine ⟨rfl, ?_⟩
    by_cases h2 : 2 ≤ s.size
    · by_cases h0 : s[0].toNat = 48
      · right; right
        refine ⟨h2, by simp; omega, ?_, ?_⟩
        · have : ¬ s[1].toNat = 120 := fun h => by rw [hx.2 ⟨h2, h0, .inl h⟩] at hp; cases hp
          simp; omega
        · have : ¬ s[1].toNat = 88 := fun h => by rw [hx.2 ⟨h2, h0, .inr h⟩] at hp; cases hp
          simp; omega
      · right; left
        exact ⟨h2, by simp; omega⟩
    · exact .inl h2
  · left
    obtain ⟨h2, h0, h1⟩ := hx.1 hp
    refine ⟨rfl, h2, by simp; omega, ?_⟩
    rcases h1 with h1 | h1
    · left; simp; omega
    · right; exact ⟨by simp; omega, by simp; omega⟩

end Go.Proofs.YtlgkfhipobdcfabGreatDoor.W

/- The walk of the reference's Format: digit by digit from the last one, then turned round. -/
namespace Go.Proofs.YtlgkfhipobdcfabGreatDoor.W
open Go.RowKit

/-- The digits from the last one on; none for nought. -/
def rdg (u : Nat) : List UInt8 := if u = 0 then [] else (Lib.decDigits u).reverse
theorem rdg_step (u : Nat) (h : u ≠ 0) : rdg u = UInt8.ofNat (48 + u % 10) :: rdg (u / 10) := by
  unfold rdg
  rw [if_neg h, digs_unfold]
  by_cases h10 : u < 10
  · rw [if_pos h10, if_pos (by omega)]
    have : u % 10 = u := by omega
    rw [this]; rfl
  · rw [if_neg h10, if_neg (by omega)]
    simp
theorem digs_len10 (k : Nat) : ∀ u, u < 10 ^ (k + 1) → (Lib.decDigits u).length ≤ k + 1 := by
  induction k with
  | zero =>
    intro u hu
    rw [digs_unfold, if_pos (by simpa using hu)]; simp
  | succ k ih =>
    intro u hu
    rw [digs_unfold]
    split
    · simp
    · have := ih (u / 10) (by rw [Nat.pow_succ] at hu; omega)
      simp only [List.length_append, List.length_cons, List.length_nil]
      omega
theorem rdg_len (u : Nat) (h : u ≤ 9223372036854775808) : (rdg u).length ≤ 19 := by
  unfold rdg
  split
  · simp
  · have := digs_len10 18 u (by omega)
    simpa using this

def byteV (b : UInt8) : Value := .int .u8 b.toNat
theorem digV (d : Nat) (h : d < 10) : Value.int .u8 (48 + (d : Int)) = byteV (UInt8.ofNat (48 + d)) := by
  unfold byteV
  have : (UInt8.ofNat (48 + d)).toNat = 48 + d := by simp; omega
  rw [this]; rfl
theorem Tryz.info5 : (Tryz.prog.info? 5).map (fun i => (i.zero, i.size, i.bytes)) = some (some (.int .u8 0), 1, 1) := by kernel_rfl

theorem slice_shape {w : World} {base : Nat} {e : TypeId} {size : Nat} {v : Value} {n : Nat} {xs : List Value} (h : w.ownsRow base e size v n xs) : ∃ a c, v = .slice a n c := by
  rcases h.2 with ⟨rfl, rfl⟩ | ⟨g, cap, cur, rfl, _⟩
  · exact ⟨_, _, rfl⟩
  · exact ⟨_, _, rfl⟩

/-- The list with its first and last k places changed. -/
def sw (l : List UInt8) (k p : Nat) : UInt8 := if p < k ∨ l.length - k ≤ p then l.getD (l.length - 1 - p) 0 else l.getD p 0
theorem sw_zero (l : List UInt8) (p : Nat) (h : p < l.length) : sw l 0 p = l.getD p 0 := by unfold sw; rw [if_neg (by omega)]
theorem sw_mid (l : List UInt8) (k p : Nat) (h : k ≤ p ∧ p < l.length - k) : sw l k p = l.getD p 0 := by unfold sw; rw [if_neg (by omega)]
theorem sw_lo (l : List UInt8) (k : Nat) (_h : k < l.length / 2) : sw l (k + 1) k = l.getD (l.length - 1 - k) 0 := by unfold sw; rw [if_pos (by omega)]
theorem sw_hi (l : List UInt8) (k : Nat) (h : k < l.length / 2) : sw l (k + 1) (l.length - 1 - k) = l.getD k 0 := by
  unfold sw; rw [if_pos (by omega)]; congr 1; omega
theorem sw_else (l : List UInt8) (k p : Nat) (h1 : p ≠ k) (h2 : p ≠ l.length - 1 - k) (h : p < l.length) : sw l (k + 1) p = sw l k p := by
  unfold sw
  by_cases hc : p < k ∨ l.length - k ≤ p
  · rw [if_pos hc, if_pos (by omega)]
  · rw [if_neg hc, if_neg (by omega)]
theorem sw_end (l : List UInt8) (k p : Nat) (h : ¬ k < l.length / 2) (hp : p < l.length) : sw l k p = l.getD (l.length - 1 - p) 0 := by
  unfold sw
  by_cases hc : p < k ∨ l.length - k ≤ p
  · rw [if_pos hc]
  · rw [if_neg hc]; congr 1; omega
theorem sw_rev (l : List UInt8) (k : Nat) (h : ¬ k < l.length / 2) : (List.range l.length).map (sw l k) = l.reverse := by
  apply List.ext_getElem
  · simp
  · intro i hi hj
    simp only [List.length_map, List.length_range] at hi
    simp only [List.getElem_map, List.getElem_range, List.getElem_reverse]
    rw [sw_end l k i h hi]
    simp [List.getD, List.getElem?_eq_getElem (show l.length - 1 - i < l.length by omega)]

/-- A row of bytes that may be written, the other memory as it was. -/
structure Bytes (B g : Nat) (w W : World) (l : List UInt8) (k : Nat) : Prop where
  cell : ∀ p, p < l.length → W.cell? ⟨g, p, none⟩ = some (byteV (sw l k p))
  free : ∀ p, p < l.length → W.frozen? ⟨g, p, none⟩ = false
  below : Below B w W
  low : B ≤ g

theorem bytes_step {B g : Nat} {w W W' : World} {l : List UInt8} {k : Nat} (h : Bytes B g w W l k) (hk : k < l.length / 2)
    (hW : W' = ((W.setCell ⟨g, k, none⟩ (byteV (l.getD (l.length - 1 - k) 0))).setCell ⟨g, l.length - 1 - k, none⟩ (byteV (l.getD k 0))).drew) : Bytes B g w W' l (k + 1) where
  cell p hp := by
    subst hW
    show ((W.setCell _ _).setCell _ _).cell? _ = _
    have c1 := h.cell k (by omega)
    have c2 := h.cell (l.length - 1 - k) (by omega)
    by_cases e2 : p = l.length - 1 - k
    · subst e2
      rw [sw_hi l k hk]
      exact World.cell?_setCell_same _ _ _ (by rw [World.cell?_setCell_other _ _ _ _ (fun q => by injection q with _ q2; omega)]; exact c2)
    · rw [World.cell?_setCell_other _ _ _ _ (fun q => by injection q with _ q2; omega)]
      by_cases e1 : p = k
      · subst e1
        rw [sw_lo l p hk]
        exact World.cell?_setCell_same _ _ _ c1
      · rw [World.cell?_setCell_other _ _ _ _ (fun q => by injection q with _ q2; omega), sw_else l k p e1 e2 hp]
        exact h.cell p hp
  free p hp := by
    subst hW
    show ((W.setCell _ _).setCell _ _).frozen? _ = _
    rw [World.frozen?_setCell, World.frozen?_setCell]
    exact h.free p hp
  below := by
    subst hW
    exact ((h.below.setCell (by exact h.low) _).setCell (by exact h.low) _).drew
  low := h.low

theorem bytes_of_row {B : Nat} {w W : World} {v : Value} {l : List UInt8} (h : W.ownsRow B 5 1 v l.length (l.map byteV)) (hb : Below B w W) (hl : l.length ≠ 0) :
    ∃ g cap, v = .slice (some ⟨g, 0, none⟩) l.length cap ∧ Bytes B g w W l 0 := by
  have hcs := fun g => h.cells (g := g)
  rcases h.2 with ⟨_, hz⟩ | ⟨g, cap, cur, rfl, h2, h3, h4, h5, h6, h7⟩
  · exact absurd hz hl
  · refine ⟨g, cap, rfl, ⟨fun p hp => ?_, fun p hp => ?_, hb, h2⟩⟩
    · rw [sw_zero l p hp]
      have := hcs g rfl p (byteV (l.getD p 0)) (by simp [List.getD, List.getElem?_eq_getElem hp])
      by_cases hp0 : p = 0
      · subst hp0; simpa [Addr.add] using this
      · simpa [Addr.add, hp0] using this
    · unfold World.frozen?; rw [h3]; simp

set_option maxRecDepth 20000 in
theorem conv_bytes {B g : Nat} {w W : World} {l : List UInt8} {k cap : Nat} (h : Bytes B g w W l k) (hk : ¬ k < l.length / 2) :
    (convert 63 9 (.slice (some ⟨g, 0, none⟩) l.length cap)).run Tryz.prog W = .ok (.string ⟨l.reverse.toArray⟩) W := by
  have hr := run_convert_bytes_arg (P := Tryz.prog) W 63 5 Tryz.underlying63 Tryz.underlying5 g 0 l.length cap ((List.range l.length).map fun p => ((sw l k p).toNat : Int)) (by simp) (fun i hi => by
    rw [Nat.zero_add, h.cell i hi]
    simp [byteV, List.getD, hi]) 9 Tryz.underlying9
  rw [hr]
  congr 2
  have e : (List.range l.length).map (sw l k) = l.reverse := sw_rev l k hk
  unfold strOfNums
  rw [← e]
  congr 1
  rw [List.map_map]
  congr 1
  apply List.map_congr_left
  intro p _
  simp

end Go.Proofs.YtlgkfhipobdcfabGreatDoor.W

/- The walk of quoted: a string from its opening quote on. -/
namespace Go.Proofs.YtlgkfhipobdcfabGreatDoor
open Go.RowKit

theorem LD_cons (s : ByteArray) (p : Nat) (h : p < s.size) : ∃ c, LD s p = c :: LD s (p + 1) := by
  have hl : p < s.data.toList.length := by rw [Array.length_toList]; exact h
  exact ⟨s.data.toList[p], by unfold LD; rw [List.drop_eq_getElem_cons hl]⟩
theorem LD_drop (s : ByteArray) (p n : Nat) : (LD s p).drop n = LD s (p + n) := by unfold LD; rw [List.drop_drop]
theorem LD_nil (s : ByteArray) (p : Nat) (h : ¬ p < s.size) : LD s p = [] := by unfold LD; rw [List.drop_of_length_le]; rw [Array.length_toList]; show s.size ≤ p; omega
theorem LD_ne (s : ByteArray) (p : Nat) (h : p < s.size) : LD s p ≠ [] := drop_ne s p h

/-- What the going through a string holds: at byte o + 1 + pos, all ahead of T being in acc. -/
structure QI (s : ByteArray) (o pos T : Nat) (q : UInt8) (acc : List UInt8) (R : QR) : Prop where
  t1 : o + 1 ≤ T
  t2 : T ≤ s.size
  asc : ∀ i c, o + 1 + pos ≤ i → i < T → (LD s i).head? = some c → c.toNat < 128
  eq : ∀ a, a = max T (o + 1 + pos) → qt q (LD s a) (a - o) (acc ++ (LD s T).take (a - T)) = R
  len : acc.length ≤ 4 * T

theorem QI.start (s : ByteArray) (o : Nat) (h : o < s.size) (q : UInt8) : QI s o 0 (o + 1) q [] (qt q (LD s (o + 1)) 1 []) where
  t1 := Nat.le_refl _
  t2 := h
  asc i c h1 h2 := by omega
  eq a ha := by
    have : a = o + 1 := by omega
    subst this
    have e1 : o + 1 - o = 1 := by omega
    simp [e1]
  len := by simp

theorem QI.skip {s : ByteArray} {o pos T : Nat} {q : UInt8} {acc : List UInt8} {R : QR} (h : QI s o pos T q acc R) (ha : o + 1 + pos < T) : wd s (o + 1 + pos) = 1 ∧ QI s o (pos + 1) T q acc R := by
  have hsz := h.t2
  obtain ⟨c, hc⟩ := LD_cons s (o + 1 + pos) (by omega)
  have h1 := h.asc (o + 1 + pos) c (Nat.le_refl _) ha (by rw [hc]; rfl)
  refine ⟨?_, h.t1, h.t2, fun i c h1 h2 => h.asc i c (by omega) h2, fun a he => h.eq a (by omega), h.len⟩
  rw [wd_drop]
  show wdL (LD s (o + 1 + pos)) = 1
  rw [hc]
  exact (Go.Proofs.YtlgkfhipobdcfabGreatDoor.asc c _ h1).2

theorem rn_head (s : ByteArray) (a : Nat) (c : UInt8) (t : List UInt8) (hc : LD s a = c :: t) (n : Nat) (hn : n < 128) (h : rn s a = n) : c.toNat = n := by
  rw [rn_drop] at h
  have h' : rnL (LD s a) = n := h
  rw [hc] at h'
  have := rn_lt c t (by omega)
  omega

/-- A rune that says nothing. -/
theorem QI.pass {s : ByteArray} {o pos T : Nat} {q : UInt8} {acc : List UInt8} {R : QR} (h : QI s o pos T q acc R) (a : Nat) (haa : a = o + 1 + pos) (ha : T ≤ a) (hl : a < s.size) (hq : q.toNat < 128)
    (h10 : rn s a ≠ 10) (hqq : rn s a ≠ q.toNat) (h92 : rn s a ≠ 92) : QI s o (pos + wd s a) T q acc R := by
  have hwl := wd_le s a hl
  have hwp := wd_pos s a
  refine ⟨h.t1, h.t2, fun i c h1 h2 => by omega, fun x hx => ?_, h.len⟩
  have hx' : x = a + wd s a := by omega
  subst hx'
  rw [← h.eq a (by omega)]
  obtain ⟨c, hc⟩ := LD_cons s a hl
  have hn1 : rn s a = rnL (LD s a) := rn_drop s a
  have hw1 : wd s a = wdL (LD s a) := wd_drop s a
  have hb : ∀ x ∈ (LD s a).take (wd s a), x.toNat ≠ 10 ∧ x ≠ q ∧ x.toNat ≠ 92 := by
    intro x hx
    rw [hw1] at hx
    rcases Nat.lt_or_ge c.toNat 128 with h1 | h1
    · have h2 := Go.Proofs.YtlgkfhipobdcfabGreatDoor.asc c (LD s (a + 1)) h1
      rw [← hc] at h2
      rw [h2.2, hc] at hx
      simp at hx
      subst hx
      rw [hn1, h2.1] at h10 hqq h92
      exact ⟨h10, fun e => hqq (by rw [e]), h92⟩
    · have h2 := hi_bytes c (LD s (a + 1)) h1
      rw [← hc] at h2
      have := h2 x hx
      exact ⟨by omega, fun e => by rw [e] at this; omega, by omega⟩
  have hlen : (LD s a).length = s.size - a := LD_len s a
  rw [qt_pass q (wd s a) (LD s a) (a - o) _ (by omega) hb, LD_drop]
  have e1 : a - o + wd s a = a + wd s a - o := by have := h.t1; omega
  rw [e1, List.append_assoc]
  congr 2
  have e2 : a + wd s a - T = (a - T) + wd s a := by omega
  rw [e2, List.take_add, LD_drop]
  congr 3
  omega

theorem QI.at {s : ByteArray} {o pos T : Nat} {q : UInt8} {acc : List UInt8} {R : QR} (h : QI s o pos T q acc R) (a : Nat) (haa : a = o + 1 + pos) (ha : T ≤ a) : qt q (LD s a) (a - o) (acc ++ (LD s T).take (a - T)) = R := h.eq a (by omega)

theorem QI.close {s : ByteArray} {o pos T : Nat} {q : UInt8} {acc : List UInt8} {R : QR} (h : QI s o pos T q acc R) (a : Nat) (haa : a = o + 1 + pos) (ha : T ≤ a) (hl : a < s.size) (hq : q.toNat = 39 ∨ q.toNat = 34) (hr : rn s a = q.toNat) :
    R = if 10000 < (acc ++ (LD s T).take (a - T)).length then .bad 14 0 else .ok (acc ++ (LD s T).take (a - T)) (a - o + 1) := by
  obtain ⟨c, hc⟩ := LD_cons s a hl
  have h1 := rn_head s a c _ hc q.toNat (by omega) hr
  rw [← h.at a haa ha, hc, qt_end q c _ _ _ (UInt8.toNat_inj.1 h1) (by omega)]
theorem QI.nl {s : ByteArray} {o pos T : Nat} {q : UInt8} {acc : List UInt8} {R : QR} (h : QI s o pos T q acc R) (a : Nat) (haa : a = o + 1 + pos) (ha : T ≤ a) (hl : a < s.size) (hr : rn s a = 10) : R = .bad 4 0 := by
  obtain ⟨c, hc⟩ := LD_cons s a hl
  rw [← h.at a haa ha, hc, qt_nl q c _ _ _ (rn_head s a c _ hc 10 (by omega) hr)]
theorem QI.end {s : ByteArray} {o pos T : Nat} {q : UInt8} {acc : List UInt8} {R : QR} (h : QI s o pos T q acc R) (hl : ¬ o + 1 + pos < s.size) : R = .bad 4 0 := by
  have := h.t2
  rw [← h.at (o + 1 + pos) rfl (by omega), LD_nil s _ hl, qt_nil]
theorem QI.esc {s : ByteArray} {o pos T : Nat} {q : UInt8} {acc : List UInt8} {R : QR} (h : QI s o pos T q acc R) (a : Nat) (haa : a = o + 1 + pos) (ha : T ≤ a) (hl : a < s.size) (hq : q.toNat = 39 ∨ q.toNat = 34) (hr : rn s a = 92) :
    wd s a = 1 ∧ (LD s (a + 1) = [] → R = .bad 4 0) ∧ (LD s (a + 1) ≠ [] → (esc (LD s (a + 1))).2 = 0 → R = .bad 4 (a - o)) ∧
      (LD s (a + 1) ≠ [] → (esc (LD s (a + 1))).2 ≠ 0 → QI s o (pos + 1) (a + 1 + (esc (LD s (a + 1))).2) q (acc ++ (LD s T).take (a - T) ++ (esc (LD s (a + 1))).1) R) := by
  obtain ⟨c, hc⟩ := LD_cons s a hl
  have h1 := rn_head s a c _ hc 92 (by omega) hr
  have hR := h.at a haa ha
  rw [hc, qt_esc q c _ _ _ h1 (by omega)] at hR
  have hw : wd s a = 1 := by
    rw [wd_drop]
    show wdL (LD s a) = 1
    rw [hc]; exact (Go.Proofs.YtlgkfhipobdcfabGreatDoor.asc c _ (by omega)).2
  refine ⟨hw, fun e => ?_, fun e1 e2 => ?_, fun e1 e2 => ?_⟩
  · rw [if_pos e] at hR; exact hR.symm
  · rw [if_neg e1, if_pos e2] at hR; exact hR.symm
  · rw [if_neg e1, if_neg e2] at hR
    obtain ⟨k1, k2⟩ := esc_take (LD s (a + 1))
    rw [LD_len] at k1
    have hlen : (acc ++ (LD s T).take (a - T) ++ (Go.Proofs.YtlgkfhipobdcfabGreatDoor.esc (LD s (a + 1))).1).length ≤ 4 * (a + 1 + (Go.Proofs.YtlgkfhipobdcfabGreatDoor.esc (LD s (a + 1))).2) := by
      have := h.len
      have h5 := esc_len4 (LD s (a + 1))
      simp only [List.length_append, List.length_take, LD_len]
      omega
    have ht := h.t1
    refine ⟨by omega, by omega, fun i d h1 h2 h3 => ?_, fun x hx => ?_, hlen⟩
    · have h4 : (LD s (a + 1)).drop (i - (a + 1)) = LD s i := by rw [LD_drop]; congr 1; omega
      apply k2
      have h6 : d ∈ ((LD s (a + 1)).take (Go.Proofs.YtlgkfhipobdcfabGreatDoor.esc (LD s (a + 1))).2).drop (i - (a + 1)) := by
        rw [List.drop_take, h4]
        cases hL : LD s i with
        | nil => rw [hL] at h3; cases h3
        | cons y z =>
          rw [hL] at h3
          have : y = d := by simpa using h3
          subst this
          obtain ⟨m, hm⟩ : ∃ m, (Go.Proofs.YtlgkfhipobdcfabGreatDoor.esc (LD s (a + 1))).2 - (i - (a + 1)) = m + 1 := ⟨(Go.Proofs.YtlgkfhipobdcfabGreatDoor.esc (LD s (a + 1))).2 - (i - (a + 1)) - 1, by omega⟩
          rw [hm]; simp
      exact List.mem_of_mem_drop h6
    · have hx' : x = a + 1 + (Go.Proofs.YtlgkfhipobdcfabGreatDoor.esc (LD s (a + 1))).2 := by omega
      subst hx'
      rw [LD_drop] at hR
      rw [← hR]
      have e3 : a + 1 + (Go.Proofs.YtlgkfhipobdcfabGreatDoor.esc (LD s (a + 1))).2 - o = a - o + 1 + (Go.Proofs.YtlgkfhipobdcfabGreatDoor.esc (LD s (a + 1))).2 := by omega
      rw [e3]
      simp

end Go.Proofs.YtlgkfhipobdcfabGreatDoor

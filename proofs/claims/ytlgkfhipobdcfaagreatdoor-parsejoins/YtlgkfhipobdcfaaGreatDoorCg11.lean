/- The walks of the parser's small functions: reads, is, at, accept, take, expect, closes, name, binding. -/
import Derived.Test.YtlgkfhipobdcfaaGreatDoorCg05
namespace Go.Proofs.YtlgkfhipobdcfaaGreatDoor
open Go.RowKit
set_option maxRecDepth 20000

set_option maxHeartbeats 1000000 in
theorem at_any (b m : Nat) (T l : List Tok) (t : Tok) (W : World) (h : PS b m T (t :: l) W) : Calls Tryz.prog 35 #[.pointer (some ⟨b, 0, none⟩)] W fun e w' => e = .returned (.int .i64 t.p) ∧ Below W.heap.size W w' := by
  go_enter Tryz.func35, Tryz.ntmps35
  go_wp2_with (go_at_call 33; refine (token_any b m T l t _ h).mono ?_; rintro e w1 ⟨rfl, hb⟩)
  go_ret
  exact ⟨rfl, hb⟩

theorem ba_eq (a w : List UInt8) : ((⟨a.toArray⟩ : ByteArray) = ⟨w.toArray⟩) ↔ a = w := by
  constructor
  · intro h; injection h with h; injection h
  · rintro rfl; rfl

set_option maxHeartbeats 1000000 in
theorem reads_any (t : Tok) (w : List UInt8) (W : World) : Calls Tryz.prog 94 #[(.agg #[.int .i64 t.k, .string ⟨t.t.toArray⟩, .int .i64 t.v, .int .i64 t.p]), .string ⟨w.toArray⟩] W fun e w' => e = .returned (.bool (rd t w)) ∧ Below W.heap.size W w' := by
  unfold rd
  by_cases hk2 : t.k = 2
  · by_cases ht : t.t = w
    · have e1 : ((t.k == 2 || t.k == 5) && t.t == w) = true := by simp [hk2, ht]
      rw [e1]
      go_enter Tryz.func94, Tryz.ntmps94
      go_wp2
      go_ret
      exact ⟨rfl, (Below.refl _ _).alloc (Nat.le_refl _) _⟩
    · have e1 : ((t.k == 2 || t.k == 5) && t.t == w) = false := by simp [ht]
      rw [e1]
      have ht' : ¬ ((⟨t.t.toArray⟩ : ByteArray) = ⟨w.toArray⟩) := fun e => ht ((ba_eq _ _).1 e)
      go_enter Tryz.func94, Tryz.ntmps94
      go_wp2
      go_ret
      exact ⟨by simp [ht], (Below.refl _ _).alloc (Nat.le_refl _) _⟩
  · by_cases hk5 : t.k = 5
    · by_cases ht : t.t = w
      · have e1 : ((t.k == 2 || t.k == 5) && t.t == w) = true := by simp [hk5, ht]
        rw [e1]
        go_enter Tryz.func94, Tryz.ntmps94
        go_wp2
        go_ret
        exact ⟨rfl, (Below.refl _ _).alloc (Nat.le_refl _) _⟩
      · have e1 : ((t.k == 2 || t.k == 5) && t.t == w) = false := by simp [ht]
        rw [e1]
        have ht' : ¬ ((⟨t.t.toArray⟩ : ByteArray) = ⟨w.toArray⟩) := fun e => ht ((ba_eq _ _).1 e)
        go_enter Tryz.func94, Tryz.ntmps94
        go_wp2
        go_ret
        exact ⟨by simp [ht], (Below.refl _ _).alloc (Nat.le_refl _) _⟩
    · have e1 : ((t.k == 2 || t.k == 5) && t.t == w) = false := by simp [hk2, hk5]
      rw [e1]
      go_enter Tryz.func94, Tryz.ntmps94
      go_wp2
      go_ret
      exact ⟨rfl, (Below.refl _ _).alloc (Nat.le_refl _) _⟩

set_option maxHeartbeats 1000000 in
theorem is_any (b m : Nat) (T l : List Tok) (t : Tok) (w : List UInt8) (W : World) (h : PS b m T (t :: l) W) : Calls Tryz.prog 63 #[.pointer (some ⟨b, 0, none⟩), .string ⟨w.toArray⟩] W fun e w' => e = .returned (.bool (rd t w)) ∧ Below W.heap.size W w' := by
  go_enter Tryz.func63, Tryz.ntmps63
  go_wp2_with (first | (go_at_call 33; refine (token_any b m T l t _ h).mono ?_; rintro e w1 ⟨rfl, hb⟩) | (go_at_call 94; refine (reads_any t w _).mono ?_; rintro e w2 ⟨rfl, hb2⟩))
  go_ret
  exact ⟨rfl, hb.trans (hb2.mono hb.size)⟩
theorem is_cls (b m : Nat) (T l : List Tok) (t : Tok) (W : World) (h : PS b m T (t :: l) W) (c : Nat) (h1 : 1 ≤ c) (h2 : c ≤ 42) : Calls Tryz.prog 63 #[.pointer (some ⟨b, 0, none⟩), .string ⟨(wds c).toArray⟩] W fun e w' => e = .returned (.bool (decide (cls t = c))) ∧ Below W.heap.size W w' := by
  rw [← rd_cls t c h1 h2]
  exact is_any b m T l t (wds c) W h

theorem PS.below {b m : Nat} {T l : List Tok} {W W' : World} (h : PS b m T l W) (hb : Below W.heap.size W W') : PS b m T l W' := h.ky (S := fun _ => False) (.of_below hb) (fun _ _ => id)
theorem PS.frozenA {b m : Nat} {T l : List Tok} {W : World} (h : PS b m T l W) (o : Obj) : (W.alloc o).frozen? ⟨b, 1, none⟩ = false := alloc_frozen (by have := h.lt; omega) h.fz o

theorem cls_rd {t : Tok} {c : Nat} (h : cls t = c) (h1 : 1 ≤ c) (h2 : c ≤ 42) : rd t (wds c) = true := by rw [rd_cls t c h1 h2, h]; simp
theorem cls_nrd {t : Tok} {c : Nat} (h : cls t ≠ c) (h1 : 1 ≤ c) (h2 : c ≤ 42) : rd t (wds c) = false := by rw [rd_cls t c h1 h2]; simpa using h

set_option maxHeartbeats 1000000 in
theorem accept_yes (b m : Nat) (T l : List Tok) (t : Tok) (W : World) (h : PS b m T (t :: l) W) (c : Nat) (hc : cls t = c) (h1 : 1 ≤ c) (h2 : c ≤ 42) : Calls Tryz.prog 62 #[.pointer (some ⟨b, 0, none⟩), .string ⟨(wds c).toArray⟩] W fun e w' => e = .returned (.bool true) ∧ Tk b m T l W w' := by
  have C := is_any b m T l t (wds c) W h
  rw [cls_rd hc h1 h2] at C
  obtain ⟨ws, hws⟩ : ∃ ws, wds c = ws := ⟨_, rfl⟩
  rw [hws] at C ⊢
  clear hws
  go_enter Tryz.func62, Tryz.ntmps62
  go_wp2_with (go_at_call 63; refine C.mono ?_; rintro e w1 ⟨rfl, hb⟩; have hp1 := h.below hb; obtain ⟨g, cap, i, r1, r2, r3, r4, -⟩ := hp1.reads; have r5 := hp1.fz; have hn := hp1.next (by omega) r2)
  go_ret
  exact ⟨rfl, hn, (Ky.of_below hb).setP _⟩

set_option maxHeartbeats 1000000 in
theorem accept_no (b m : Nat) (T l : List Tok) (t : Tok) (W : World) (h : PS b m T (t :: l) W) (c : Nat) (hc : cls t ≠ c) (h1 : 1 ≤ c) (h2 : c ≤ 42) : Calls Tryz.prog 62 #[.pointer (some ⟨b, 0, none⟩), .string ⟨(wds c).toArray⟩] W fun e w' => e = .returned (.bool false) ∧ Below W.heap.size W w' := by
  have C := is_any b m T l t (wds c) W h
  rw [cls_nrd hc h1 h2] at C
  obtain ⟨ws, hws⟩ : ∃ ws, wds c = ws := ⟨_, rfl⟩
  rw [hws] at C ⊢
  clear hws
  go_enter Tryz.func62, Tryz.ntmps62
  go_wp2_with (go_at_call 63; refine C.mono ?_; rintro e w1 ⟨rfl, hb⟩)
  go_ret
  exact ⟨rfl, hb⟩

theorem refuse_p (a : Int) (w : World) : Calls Tryz.prog 34 #[.int .i64 a] w fun e w' => e = refp a ∧ Below w.heap.size w w' := by
  go_enter Tryz.func34, Tryz.ntmps34
  go_wp2
  exact ⟨rfl, rfl, Below.refl _ _⟩

set_option maxHeartbeats 1000000 in
theorem take_p (b m : Nat) (T l : List Tok) (t : Tok) (W : World) (h : PS b m T (t :: l) W) (hc : cls t ≠ 56) : Calls Tryz.prog 95 #[.pointer (some ⟨b, 0, none⟩)] W fun e w' => e = .returned (.agg #[.int .i64 t.k, .string ⟨t.t.toArray⟩, .int .i64 t.v, .int .i64 t.p]) ∧ Tk b m T l W w' := by
  have hlt := h.lt
  have hbW : W.heap.size ≠ b := by omega
  go_enter Tryz.func95, Tryz.ntmps95
  go_wp2_with (go_at_call 33; refine (token_any b m T l t _ (h.alloc _)).mono ?_; rintro e w1 ⟨rfl, hb⟩; have hp1 := ((h.alloc _).below hb).alloc (.cells #[.int .i64 t.k, .string ⟨t.t.toArray⟩, .int .i64 t.v, .int .i64 t.p] 79); obtain ⟨g, cap, i, r1, r2, r3, r4, -⟩ := hp1.reads; have r5 := hp1.fz; have hn := hp1.next hc r2; have R0 := (((Bx.new W 79 _).below hb).alloc (.cells #[.int .i64 t.k, .string ⟨t.t.toArray⟩, .int .i64 t.v, .int .i64 t.p] 79)).set (o := 1) hbW (.int .i64 ((i : Int) + 1)); have L0 := (Bx.new w1 79 #[.int .i64 t.k, .string ⟨t.t.toArray⟩, .int .i64 t.v, .int .i64 t.p]).set (b := b) (o := 1) (by have := hb.size; simp at this; omega) (.int .i64 ((i : Int) + 1)); have K0 : Ky (fun k => k = b) W ((w1.alloc (.cells #[.int .i64 t.k, .string ⟨t.t.toArray⟩, .int .i64 t.v, .int .i64 t.p] 79)).setCell ⟨b, 1, none⟩ (.int .i64 ((i : Int) + 1))) := ((((Ky.refl _ W).alloc _).trans (Ky.of_below hb)).alloc _).setP _; obtain ⟨w2, hw2⟩ : ∃ w2, (w1.alloc (.cells #[.int .i64 t.k, .string ⟨t.t.toArray⟩, .int .i64 t.v, .int .i64 t.p] 79)).setCell ⟨b, 1, none⟩ (.int .i64 ((i : Int) + 1)) = w2 := ⟨_, rfl⟩; rw [hw2] at hn R0 L0 K0; obtain ⟨l0, l1, l2, l3⟩ := L0.four; obtain ⟨q0, q1, q2, q3⟩ := R0.four; have f0 := R0.f 0; have f1 := R0.f 1; have f2 := R0.f 2; have f3 := R0.f 3)
  refine bodyPost_ret (v := (.agg #[.int .i64 t.k, .string ⟨t.t.toArray⟩, .int .i64 t.v, .int .i64 t.p])) (by simp [results, Tryz.results95, go_sem, q0, q1, q2, q3]) rfl ?_
  exact ⟨rfl, ((((Tk.mk hn K0).new (Nat.le_refl _) hlt.2 _).new (Nat.le_refl _) hlt.2 _).new (Nat.le_refl _) hlt.2 _).new (Nat.le_refl _) hlt.2 _⟩

set_option maxHeartbeats 1000000 in
theorem expect_yes (b m : Nat) (T l : List Tok) (t : Tok) (W : World) (h : PS b m T (t :: l) W) (c : Nat) (hc : cls t = c) (h1 : 1 ≤ c) (h2 : c ≤ 42) : Calls Tryz.prog 98 #[.pointer (some ⟨b, 0, none⟩), .string ⟨(wds c).toArray⟩] W fun e w' => e = .returned (.tuple #[]) ∧ Tk b m T l W w' := by
  have C := accept_yes b m T l t W h c hc h1 h2
  obtain ⟨ws, hws⟩ : ∃ ws, wds c = ws := ⟨_, rfl⟩
  rw [hws] at C ⊢
  clear hws
  go_enter Tryz.func98, Tryz.ntmps98
  go_wp2_with (go_at_call 62; refine C.mono ?_; rintro e w1 ⟨rfl, hT⟩)
  go_end0
  exact ⟨rfl, hT⟩

set_option maxHeartbeats 1000000 in
theorem expect_no (b m : Nat) (T l : List Tok) (t : Tok) (W : World) (h : PS b m T (t :: l) W) (c : Nat) (hc : cls t ≠ c) (h1 : 1 ≤ c) (h2 : c ≤ 42) : Calls Tryz.prog 98 #[.pointer (some ⟨b, 0, none⟩), .string ⟨(wds c).toArray⟩] W fun e w' => e = refp t.p ∧ Below W.heap.size W w' := by
  have C := accept_no b m T l t W h c hc h1 h2
  obtain ⟨ws, hws⟩ : ∃ ws, wds c = ws := ⟨_, rfl⟩
  rw [hws] at C ⊢
  clear hws
  go_enter Tryz.func98, Tryz.ntmps98
  go_wp2_with (first | (go_at_call 62; refine C.mono ?_; rintro e w1 ⟨rfl, hb⟩) | (go_at_call 35; refine (at_any b m T l t _ (h.below hb)).mono ?_; rintro e w2 ⟨rfl, hb2⟩) | (go_at_call 34; refine (refuse_p _ _).mono ?_; rintro e w3 ⟨he, hb3⟩; unfold refp at he; subst he))
  exact ⟨rfl, rfl, (hb.trans (hb2.mono hb.size)).trans (hb3.mono (Nat.le_trans hb.size hb2.size))⟩

set_option maxHeartbeats 1000000 in
theorem name_yes (b m : Nat) (T l : List Tok) (t : Tok) (W : World) (h : PS b m T (t :: l) W) (hc : cls t = 51) : Calls Tryz.prog 97 #[.pointer (some ⟨b, 0, none⟩)] W fun e w' => e = .returned (.agg #[.int .i64 (6), .string ⟨(t.t).toArray⟩, .int .i64 (0), .int .i64 (t.p), .slice none 0 0]) ∧ Tk b m T l W w' := by
  have hk : t.k = 1 := cls_kind t 51 hc (by omega)
  have hlt := h.lt
  have hbW : W.heap.size ≠ b := by omega
  go_enter Tryz.func97, Tryz.ntmps97
  go_wp2_with (first | (go_at_call 33; refine (token_any b m T l t _ (h.alloc _)).mono ?_; rintro e w1 ⟨rfl, hb⟩; have h1 := (h.alloc _).below hb; have R1 := (Bx.new W 24 _).below hb; have K1 := ((Ky.refl (fun k => k = b) W).alloc _).trans (Ky.of_below hb)) | (go_at_call 95; refine (take_p b m T l t _ h1 (by omega)).mono ?_; rintro e w2 ⟨rfl, hT⟩; have R2 := R1.ky hT.ky hbW; obtain ⟨q0, q1, q2, q3, q4⟩ := R2.fiveA; obtain ⟨f0, f1, f2, f3, f4⟩ := R2.frozen5A))
  refine bodyPost_ret (v := (.agg #[.int .i64 (6), .string ⟨(t.t).toArray⟩, .int .i64 (0), .int .i64 (t.p), .slice none 0 0])) (by simp [results, Tryz.results97, go_sem, q0, q1, q2, q3, q4]) rfl ?_
  exact ⟨rfl, ((Tk.mk hT.ps (K1.trans hT.ky)).alloc _).five (Nat.le_refl _) hlt.2 _ _ _ _ _⟩

set_option maxHeartbeats 1000000 in
theorem name_no (b m : Nat) (T l : List Tok) (t : Tok) (W : World) (h : PS b m T (t :: l) W) (hc : cls t ≠ 51) : Calls Tryz.prog 97 #[.pointer (some ⟨b, 0, none⟩)] W fun e w' => e = refp t.p ∧ Below W.heap.size W w' := by
  have hk : ¬ t.k = 1 := fun e => hc (cls_of_kind t 1 e (by simp))
  go_enter Tryz.func97, Tryz.ntmps97
  go_wp2_with (first | (go_at_call 33; refine (token_any b m T l t _ (h.alloc _)).mono ?_; rintro e w1 ⟨rfl, hb⟩; have h1 := (h.alloc _).below hb; have B1 := ((Below.refl _ W).alloc (Nat.le_refl _) _).trans (hb.mono (by simp))) | (go_at_call 35; refine (at_any b m T l t _ h1).mono ?_; rintro e w2 ⟨rfl, hb2⟩) | (go_at_call 34; refine (refuse_p _ _).mono ?_; rintro e w3 ⟨he, hb3⟩; unfold refp at he; subst he))
  exact ⟨rfl, rfl, (B1.trans (hb2.mono B1.size)).trans (hb3.mono (Nat.le_trans B1.size hb2.size))⟩

set_option maxHeartbeats 1000000 in
theorem nameText_yes (b m : Nat) (T l : List Tok) (t : Tok) (W : World) (h : PS b m T (t :: l) W) (hc : cls t = 51) : Calls Tryz.prog 142 #[.pointer (some ⟨b, 0, none⟩)] W fun e w' => e = .returned (.agg #[.int .i64 (5), .string ⟨(t.t).toArray⟩, .int .i64 (0), .int .i64 (t.p), .slice none 0 0]) ∧ Tk b m T l W w' := by
  have hlt := h.lt
  have hbW : W.heap.size ≠ b := by omega
  go_enter Tryz.func142, Tryz.ntmps142
  go_wp2_with (go_at_call 97; refine (name_yes b m T l t _ (h.alloc _) hc).mono ?_; rintro e w2 ⟨rfl, hT⟩; have R2 := (Bx.new W 24 _).ky hT.ky hbW; obtain ⟨q0, q1, q2, q3, q4⟩ := R2.fiveA; obtain ⟨f0, f1, f2, f3, f4⟩ := R2.frozen5A)
  refine bodyPost_ret (v := (.agg #[.int .i64 (5), .string ⟨(t.t).toArray⟩, .int .i64 (0), .int .i64 (t.p), .slice none 0 0])) (by simp [results, Tryz.results142, go_sem, q0, q1, q2, q3, q4]) rfl ?_
  exact ⟨rfl, ((Tk.mk hT.ps (((Ky.refl (fun k => k = b) W).alloc _).trans hT.ky)).alloc _).five (Nat.le_refl _) hlt.2 _ _ _ _ _⟩

set_option maxHeartbeats 1000000 in
theorem nameText_no (b m : Nat) (T l : List Tok) (t : Tok) (W : World) (h : PS b m T (t :: l) W) (hc : cls t ≠ 51) : Calls Tryz.prog 142 #[.pointer (some ⟨b, 0, none⟩)] W fun e w' => e = refp t.p ∧ Below W.heap.size W w' := by
  go_enter Tryz.func142, Tryz.ntmps142
  go_wp2_with (go_at_call 97; refine (name_no b m T l t _ (h.alloc _) hc).mono ?_; rintro e w2 ⟨he, hb2⟩; unfold refp at he; subst he)
  exact ⟨rfl, rfl, ((Below.refl _ W).alloc (Nat.le_refl _) _).trans (hb2.mono (by simp))⟩

end Go.Proofs.YtlgkfhipobdcfaaGreatDoor

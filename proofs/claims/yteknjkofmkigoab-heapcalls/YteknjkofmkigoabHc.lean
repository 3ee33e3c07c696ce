/- The law HeapCalls: the heap and the reference's side by side; calls at no heap. -/
import Derived.Test.YteknjkofmkigoabHm
namespace Go.Proofs.Yteknjkofmkigoab.H
open Go.RowKit

theorem live_nil (w : World) : Calls Try.prog 21 #[.pointer none] w fun e w' => e = .returned (.int .i64 0) ∧ w' = w := by
  go_enter Try.func21, Try.ntmps21
  go_wp2_with fail
  go_ret
  exact ⟨rfl, rfl⟩
theorem laid_nil (w : World) : Calls Try.prog 22 #[.pointer none] w fun e w' => e = .returned (.int .i64 0) ∧ w' = w := by
  go_enter Try.func22, Try.ntmps22
  go_wp2_with fail
  go_ret
  exact ⟨rfl, rfl⟩
theorem blocks_nil (w : World) : Calls Try.prog 23 #[.pointer none] w fun e w' => e = .returned (.slice none 0 0) ∧ w' = w := by
  go_enter Try.func23, Try.ntmps23
  go_wp2_with fail
  go_ret
  exact ⟨rfl, rfl⟩
theorem give_nil (w : World) : Calls Try.prog 24 #[.pointer none, .int .i64 1] w fun e w' => e = .returned (.int .i64 1) ∧ w' = w := by
  go_enter Try.func24, Try.ntmps24
  go_wp2_with fail
  go_ret
  exact ⟨rfl, rfl⟩
theorem room_nil (w : World) : Calls Try.prog 38 #[.pointer none, .int .i64 1] w fun e w' => e = .returned (.int .i64 1) ∧ w' = w := by
  go_enter Try.func38, Try.ntmps38
  go_wp2_with fail
  go_ret
  exact ⟨rfl, rfl⟩
theorem spend_nil (w : World) : Calls Try.prog 25 #[.pointer none, .int .i64 1] w fun e w' => e = .returned (.int .i64 1) ∧ w' = w := by
  have C := room_nil w
  go_enter Try.func25, Try.ntmps25
  go_wp2_with (go_at_call 38; refine C.mono ?_; rintro e w' ⟨rfl, rfl⟩)
  go_ret
  exact ⟨rfl, rfl⟩

/-- Over whatever turns two blocks of No's and makes new ones. -/
theorem Hp.two {No No' : Nat → Prop} {w w' : World} {S b c : Nat} {vb : Value} {s : St} (h : Hp No w S b c vb s) (p : Nat) (q : Option Nat) (hp : No p) (hq : ∀ g, q = some g → No g) (hos : w'.os = w.os) (htape : w'.tape = w.tape) (hout : w'.output = w.output) (hsz : w.heap.size ≤ w'.heap.size) (hb : ∀ g, g < w.heap.size → g ≠ p → q ≠ some g → w'.heap[g]? = w.heap[g]?) (hn : ∀ g, No' g → No g ∨ (w.heap.size ≤ g ∧ g < w'.heap.size)) : Hp No' w' S b c vb s := by
  have lp := h.nos p hp
  have g1 : w.grownBy { w' with heap := w'.heap.setIfInBounds p (w.heap[p]'lp) } q := by
    refine ⟨hos, htape, hout, by simp; exact hsz, fun k hk hne => ?_⟩
    by_cases e : k = p
    · subst e
      show (w'.heap.setIfInBounds k (w.heap[k]'lp))[k]? = _
      rw [Array.getElem?_setIfInBounds_self_of_lt (by omega), Array.getElem?_eq_getElem hk]
    · show (w'.heap.setIfInBounds p (w.heap[p]'lp))[k]? = _
      rw [Array.getElem?_setIfInBounds_ne (fun e2 => e e2.symm)]
      exact hb k hk e (fun e2 => hne e2.symm)
  have g2 : World.grownBy { w' with heap := w'.heap.setIfInBounds p (w.heap[p]'lp) } w' (some p) := by
    refine ⟨rfl, rfl, rfl, by simp, fun k hk hne => ?_⟩
    show _ = (w'.heap.setIfInBounds p (w.heap[p]'lp))[k]?
    rw [Array.getElem?_setIfInBounds_ne (fun e2 => hne (by rw [e2]))]
  refine (h.grow (No' := fun g => No' g ∨ g = p) g1 hq (fun g r => ?_)).grow g2 (fun g e => by cases e; exact .inr rfl) (fun g r => .inl (.inl r))
  rcases r with r | r
  · rcases hn g r with r | r
    · exact .inl r
    · exact .inr ⟨r.1, by simpa using r.2⟩
  · exact .inl (r ▸ hp)

/-- Both heaps in one memory, apart from each other. -/
structure Bo2 (N : Nat) (w : World) (S b S' c d : Nat) (s : St) (r : Rs) (vb va : Value) : Prop where
  hp : Hp (fun g => g < N ∨ g = S' ∨ va.ownBlock = some g) w S b c vb s
  rp : Rp (fun g => g < w.heap.size ∧ g ≠ S' ∧ va.ownBlock ≠ some g) w S' d va r
  lo : N ≤ S'
  lv : ∀ g, va.ownBlock = some g → N ≤ g
def Bo (N : Nat) (w : World) (S b S' c d : Nat) (s : St) (r : Rs) : Prop := ∃ vb va, Bo2 N w S b S' c d s r vb va
theorem Bo.at {N : Nat} {w w' : World} {S b S' c d : Nat} {s : St} {r : Rs} (h : Bo N w S b S' c d s r) (hg : w.grownBy w' none) : Bo N w' S b S' c d s r := by
  obtain ⟨vb, va, h⟩ := h
  exact ⟨vb, va, h.hp.grow hg (fun g e => by cases e) (fun g q => .inl q), h.rp.far (hg.block S' h.rp.apart.2 (by simp)) (fun g e => hg.block g (h.rp.row.lt g e).2 (by simp)) (Nat.le_refl _) (fun g q => q), h.lo, h.lv⟩
theorem Bo2.left {N : Nat} {w w' : World} {S b S' c d c' : Nat} {s s' : St} {r : Rs} {vb va vb' : Value} (h : Bo2 N w S b S' c d s r vb va) (hk : Keep (fun g => g < N ∨ g = S' ∨ va.ownBlock = some g) w w') (hp' : Hp (fun g => g < N ∨ g = S' ∨ va.ownBlock = some g) w' S b c' vb' s') : Bo2 N w' S b S' c' d s' r vb' va :=
  ⟨hp', h.rp.far (hk.block S' h.rp.apart.2 (.inr (.inl rfl))) (fun g e => hk.block g (h.rp.row.lt g e).2 (.inr (.inr e))) (Nat.le_refl _) (fun _ q => q), h.lo, h.lv⟩
theorem Bo2.right {N : Nat} {w w' : World} {S b S' c d d' : Nat} {s : St} {r r' : Rs} {vb va va' : Value} (h : Bo2 N w S b S' c d s r vb va) (hk : Keep (fun g => g < w.heap.size ∧ g ≠ S' ∧ va.ownBlock ≠ some g) w w') (hr : Rp (fun g => g < w.heap.size ∧ g ≠ S' ∧ va.ownBlock ≠ some g) w' S' d' va' r') : Bo2 N w' S b S' c d' s r' vb va' := by
  have key : ∀ g, va'.ownBlock = some g → g < w.heap.size → va.ownBlock = some g := fun g e hg => by
    by_cases q : va.ownBlock = some g
    · exact q
    · exact absurd ⟨hg, fun e2 => hr.apart.1 (e2 ▸ e), q⟩ (hr.nov g e)
  have hNw : N ≤ w.heap.size := Nat.le_trans h.lo (Nat.le_of_lt h.rp.apart.2)
  refine ⟨h.hp.two S' va.ownBlock (.inr (.inl rfl)) (fun g e => .inr (.inr e)) hk.os hk.tape hk.output hk.size (fun g hg n1 n2 => hk.block g hg ⟨hg, n1, n2⟩) (fun g q => ?_), hr.far rfl (fun _ _ => rfl) (Nat.le_refl _) (fun g q => q), h.lo, fun g e => ?_⟩
  · rcases q with q | q | q
    · exact .inl (.inl q)
    · exact .inl (.inr (.inl q))
    · by_cases hg : g < w.heap.size
      · exact .inl (.inr (.inr (key g q hg)))
      · exact .inr ⟨by omega, (hr.row.lt g q).2⟩
  · by_cases hg : g < w.heap.size
    · exact h.lv g (key g e hg)
    · omega
theorem Bo2.kb {N : Nat} {w w' : World} {S b S' c d : Nat} {s : St} {r : Rs} {vb va : Value} (h : Bo2 N w S b S' c d s r vb va) (hk : Keep (fun g => g < w.heap.size ∧ g ≠ S' ∧ va.ownBlock ≠ some g) w w') : Below N w w' := by
  have hNw : N ≤ w.heap.size := Nat.le_trans h.lo (Nat.le_of_lt h.rp.apart.2)
  refine hk.below hNw (fun g q => ⟨by omega, fun e => by have := h.lo; omega, fun e => by have := h.lv g e; omega⟩)

/-- Both heaps, answering alike. -/
def Jo (N : Nat) (w : World) (S b S' k : Nat) : Prop := ∃ sp s r, Sim sp s r ∧ Inv sp s ∧ Bo N w S b S' k k s r ∧ r.ck ≤ k
theorem Jo.at {N : Nat} {w w' : World} {S b S' k : Nat} (h : Jo N w S b S' k) (hg : w.grownBy w' none) : Jo N w' S b S' k := by
  obtain ⟨sp, s, r, h1, h2, h3, h4⟩ := h
  exact ⟨sp, s, r, h1, h2, h3.at hg, h4⟩
theorem Jo.more {N : Nat} {w : World} {S b S' k : Nat} (h : Jo N w S b S' k) : Jo N w S b S' (k + 1) := by
  obtain ⟨sp, s, r, h1, h2, ⟨vb, va, h3⟩, h4⟩ := h
  exact ⟨sp, s, r, h1, h2, ⟨vb, va, h3.hp.more (Nat.le_succ k), h3.rp.more (Nat.le_succ k), h3.lo, h3.lv⟩, by omega⟩
theorem lims {sp : Int} {s : St} {r : Rs} (sm : Sim sp s r) (iv : Inv sp s) : 0 ≤ r.lim ∧ r.lim ≤ 400000 ∧ rlv r ≤ r.lim := by
  have h1 := iv.ok.l0
  have h2 := iv.ok.l1
  have h3 := iv.ok.l2
  rw [sm.live iv, sm.lim]
  omega
theorem take_jo {N : Nat} {w : World} {S b S' k : Nat} (J : Jo N w S b S' k) (hk : k ≤ 1000) (hN : N ≤ w.heap.size) (n : Int) :
    ∃ x y : Int, Calls Try.prog 26 #[.pointer (some ⟨S, 0, none⟩), .int .i64 n] w fun e w3 => e = .returned (.tuple #[.int .i64 x, .int .i64 y]) ∧ Below N w w3 ∧ Calls Try.prog 27 #[.pointer (some ⟨S', 0, none⟩), .int .i64 n] w3 fun e w4 => e = .returned (.tuple #[.int .i64 x, .int .i64 y]) ∧ Jo N w4 S b S' (k + 1) ∧ Below N w3 w4 := by
  obtain ⟨sp, s, r, sm, iv, ⟨vb, va, B⟩, hck⟩ := J
  obtain ⟨l0, l1, l2⟩ := lims sm iv
  refine ⟨takeId s n, takeE s n, (take_any B.hp (by omega) iv.ok n).mono ?_⟩
  rintro e w3 ⟨rfl, ⟨vb3, hp3⟩, k3⟩
  have B3 := B.left k3 hp3
  refine ⟨rfl, k3.below hN (fun g q => .inl q), (rtake_any B3.rp (by omega) (sm.ok iv) l0 l1 l2 n).mono ?_⟩
  rintro e w4 ⟨rfl, ⟨va4, hr4⟩, k4⟩
  exact ⟨by rw [(sm.take iv n).2, sm.E iv n], ⟨sp, _, _, (sm.take iv n).1, iv.take n, ⟨_, _, B3.right k4 hr4⟩, by rw [ck_take]; omega⟩, B3.kb k4⟩
theorem bgrow {N : Nat} {w w' : World} (h : w.grownBy w' none) (hN : N ≤ w.heap.size) : Below N w w' := ⟨h.os, h.tape, h.output, h.size, fun g hg => h.block g (by omega) (by simp)⟩
theorem give_jo {N : Nat} {w : World} {S b S' k : Nat} (J : Jo N w S b S' k) (hk : k ≤ 1000) (hN : N ≤ w.heap.size) (n : Int) :
    ∃ x : Int, ∀ W, w.grownBy W none → Calls Try.prog 24 #[.pointer (some ⟨S, 0, none⟩), .int .i64 n] W fun e w3 => e = .returned (.int .i64 x) ∧ Below N w w3 ∧ ∀ W', w3.grownBy W' none → Calls Try.prog 28 #[.pointer (some ⟨S', 0, none⟩), .int .i64 n] W' fun e w4 => e = .returned (.int .i64 x) ∧ Jo N w4 S b S' (k + 1) ∧ Below N w w4 := by
  obtain ⟨sp, s, r, sm, iv, B0, hck⟩ := J
  have hg := sm.ck0
  refine ⟨giveE s n, fun W hW => ?_⟩
  obtain ⟨vb, va, B⟩ := B0.at hW
  have b1 : Below N w W := bgrow hW hN
  have s1 := b1.size
  refine (give_any B.hp (by omega) iv n).mono ?_
  rintro e w3 ⟨rfl, ⟨vb3, hp3⟩, k3⟩
  have B3 : Bo N w3 S b S' (k + 1) k (giveSt s n) r := ⟨_, _, B.left k3 hp3⟩
  have b3 : Below N w w3 := b1.trans (k3.below (by omega) (fun g q => .inl q))
  have s3 := b3.size
  refine ⟨rfl, b3, fun W' hW' => ?_⟩
  obtain ⟨vb4, va4, B4⟩ := B3.at hW'
  have b4 : Below N w W' := b3.trans (bgrow hW' (by omega))
  refine (rgive_any B4.rp (by omega) hg (by omega) n).mono ?_
  rintro e w4 ⟨rfl, hr4, k4⟩
  have hc := ck_give r n
  exact ⟨by rw [sm.giveE n], ⟨sp, _, _, sm.give iv n, iv.give n, ⟨_, _, B4.right k4 (hr4.more (Nat.le_succ k))⟩, by omega⟩, b4.trans (B4.kb k4)⟩
theorem spend_jo {N : Nat} {w : World} {S b S' k : Nat} (J : Jo N w S b S' k) (hk : k ≤ 1000) (hN : N ≤ w.heap.size) (n : Int) :
    ∃ x : Int, ∀ W, w.grownBy W none → Calls Try.prog 25 #[.pointer (some ⟨S, 0, none⟩), .int .i64 n] W fun e w3 => e = .returned (.int .i64 x) ∧ Below N w w3 ∧ ∀ W', w3.grownBy W' none → Calls Try.prog 29 #[.pointer (some ⟨S', 0, none⟩), .int .i64 n] W' fun e w4 => e = .returned (.int .i64 x) ∧ Jo N w4 S b S' (k + 1) ∧ Below N w w4 := by
  obtain ⟨sp, s, r, sm, iv, B0, hck⟩ := J
  obtain ⟨l0, l1, l2⟩ := lims sm iv
  refine ⟨takeE s n, fun W hW => ?_⟩
  obtain ⟨vb, va, B⟩ := B0.at hW
  have b1 : Below N w W := bgrow hW hN
  have s1 := b1.size
  refine (spend_any B.hp iv.ok n).mono ?_
  rintro e w3 ⟨rfl, hp3, k3⟩
  have B3 : Bo N w3 S b S' k k (spendSt s n) r := ⟨_, _, B.left k3 hp3⟩
  have b3 : Below N w w3 := b1.trans (k3.below (by omega) (fun g q => .inl q))
  have s3 := b3.size
  refine ⟨rfl, b3, fun W' hW' => ?_⟩
  obtain ⟨vb4, va4, B4⟩ := B3.at hW'
  have b4 : Below N w W' := b3.trans (bgrow hW' (by omega))
  refine (rspend_any B4.rp (by omega) (sm.ok iv) l0 l1 l2 n).mono ?_
  rintro e w4 ⟨rfl, hr4, k4⟩
  have J4 : Jo N w4 S b S' k := ⟨_, _, _, sm.spend iv n, iv.spend n, ⟨_, _, B4.right k4 hr4⟩, by rw [ck_spend]; omega⟩
  exact ⟨by rw [sm.E iv n], J4.more, b4.trans (B4.kb k4)⟩
theorem look_jos {N : Nat} {w : World} {S b S' k : Nat} (J : Jo N w S b S' k) (hk : k ≤ 1000) :
    ∃ x y : Int, ∀ W, w.grownBy W none → (Calls Try.prog 21 #[.pointer (some ⟨S, 0, none⟩)] W fun e w' => e = .returned (.int .i64 x) ∧ w' = W) ∧ (Calls Try.prog 31 #[.pointer (some ⟨S', 0, none⟩)] W fun e w' => e = .returned (.int .i64 x) ∧ w' = W) ∧ (Calls Try.prog 22 #[.pointer (some ⟨S, 0, none⟩)] W fun e w' => e = .returned (.int .i64 y) ∧ w' = W) ∧ (Calls Try.prog 32 #[.pointer (some ⟨S', 0, none⟩)] W fun e w' => e = .returned (.int .i64 y) ∧ w' = W) := by
  obtain ⟨sp, s, r, sm, iv, B0, hck⟩ := J
  refine ⟨s.live, s.laid, fun W hW => ?_⟩
  obtain ⟨vb, va, B⟩ := B0.at hW
  refine ⟨live_any W S _ B.hp.c1, ?_, laid_any W S _ B.hp.c2, ?_⟩
  · rw [← sm.live iv]; exact rlive_any B.rp (by omega) (sm.ok iv)
  · rw [← sm.laid iv]; exact rlaid_any B.rp (by omega) (sm.ok iv)
theorem blocks_jo {N : Nat} {w : World} {S b S' k : Nat} (J : Jo N w S b S' k) (hk : k ≤ 1000) :
    ∃ t : List Int, t.length ≤ 1000 ∧ Calls Try.prog 23 #[.pointer (some ⟨S, 0, none⟩)] w fun e w3 => ∃ v3, e = .returned v3 ∧ w3.ownsRow w.heap.size 3 1 v3 t.length (t.map (Value.int .i64)) ∧ Below w.heap.size w w3 ∧ Calls Try.prog 30 #[.pointer (some ⟨S', 0, none⟩)] w3 fun e w4 => ∃ v4, e = .returned v4 ∧ w4.ownsRow w3.heap.size 3 1 v4 t.length (t.map (Value.int .i64)) ∧ Below w3.heap.size w3 w4 := by
  obtain ⟨sp, s, r, sm, iv, B0, hck⟩ := J
  have B0' := B0
  obtain ⟨vb, va, B⟩ := B0
  have h1 := tids_len s.bl s.bl.length
  have h2 := B.hp.len
  refine ⟨tids s.bl s.bl.length, by omega, (blocks_any B.hp (by omega)).mono ?_⟩
  rintro e w3 ⟨v3, rfl, o3, b3⟩
  obtain ⟨vb3, va3, B3⟩ := B0'.at (below_grown b3)
  refine ⟨v3, rfl, o3, b3, (rblocks_any B3.rp (by omega)).mono ?_⟩
  rintro e w4 ⟨v4, rfl, o4, b4⟩
  rw [sm.ids] at o4
  exact ⟨v4, rfl, o4, b4⟩
theorem new_jo (w : World) (n : Int) (h0 : 0 ≤ n) (h1 : n ≤ 400000) :
    Jo w.heap.size (((w.alloc (.map #[] 0)).alloc (.cells #[.int .i64 n, .int .i64 0, .int .i64 0, .slice none 0 0, .map (some w.heap.size)] 70)).alloc (.cells #[.int .i64 n, .int .i64 0, .int .i64 0, .slice none 0 0] 50)) (w.heap.size + 1) w.heap.size (w.heap.size + 2) 0 := by
  have hp := new_hp w n (fun g => g < w.heap.size) (fun g q => q)
  have hs : ((w.alloc (.map #[] 0)).alloc (.cells #[.int .i64 n, .int .i64 0, .int .i64 0, .slice none 0 0, .map (some w.heap.size)] 70)).heap.size = w.heap.size + 2 := by simp
  generalize (w.alloc (.map #[] 0)).alloc (.cells #[.int .i64 n, .int .i64 0, .int .i64 0, .slice none 0 0, .map (some w.heap.size)] 70) = W at *
  have hsz : (W.alloc (.cells #[.int .i64 n, .int .i64 0, .int .i64 0, .slice none 0 0] 50)).heap.size = w.heap.size + 3 := by simp [hs]
  have hr := new_rp W n (fun g => g < w.heap.size + 3 ∧ g ≠ w.heap.size + 2 ∧ (Value.slice none 0 0).ownBlock ≠ some g) (fun g q => by have := q.1; have := q.2.1; omega)
  refine ⟨0, newSt n, ⟨n, 0, 0, []⟩, Sim.new n, Inv.new n h0 h1, ⟨.slice none 0 0, .slice none 0 0, hp.grow (World.grownBy_alloc W _ none) (fun g e => by cases e) (fun g q => ?_), ?_, by omega, fun g e => by cases e⟩, by simp⟩
  · rcases q with q | q | q
    · exact .inl q
    · exact .inr ⟨by omega, by omega⟩
    · cases q
  · rw [hsz]; rw [hs] at hr; exact hr
end Go.Proofs.Yteknjkofmkigoab.H

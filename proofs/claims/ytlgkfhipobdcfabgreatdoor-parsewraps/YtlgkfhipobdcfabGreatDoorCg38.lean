/- How great a tree is: at most three times its tokens (no program in it). -/
import Derived.Test.YtlgkfhipobdcfabGreatDoorCg14
import Derived.Test.YtlgkfhipobdcfabGreatDoorCg37
namespace Go.Proofs.YtlgkfhipobdcfabGreatDoor

theorem F.siz_app : ∀ f g : F, (f.app g).siz = f.siz + g.siz
  | .nil, g => by simp [F.app, F.siz]
  | .cons k t n p ks r, g => by simp only [F.app, F.siz, F.siz_app r g]; omega
theorem siz_one (k : Int) (t : List UInt8) (n p : Int) (ks : F) : (one k t n p ks).siz = ks.siz + 1 := by simp only [one, F.siz]
/-- Where trees are told: what holds of them and of the tokens left. -/
def Gz (R : F → List Tok → Prop) (x : PR) : Prop := ∀ f m, x = .ok f m → R f m
theorem Gz.ok {R : F → List Tok → Prop} {f : F} {m : List Tok} (h : R f m) : Gz R (.ok f m) := fun f' m' e => by injection e with e1 e2; rw [← e1, ← e2]; exact h
theorem Gz.bad {R : F → List Tok → Prop} (p : Int) : Gz R (.bad p) := fun f m h => by cases h
theorem Gz.mono {Q R : F → List Tok → Prop} {x : PR} (h : Gz Q x) (hk : ∀ f m, Q f m → R f m) : Gz R x := fun f m e => hk f m (h f m e)
theorem Gz.bind {Q R : F → List Tok → Prop} {x : PR} {k : F → List Tok → PR} (h : Gz Q x) (hk : ∀ f m, Q f m → Gz R (k f m)) : Gz R (x.bind k) := by
  cases x with
  | ok f m => exact hk f m (h f m rfl)
  | bad p => exact .bad p
  | out => exact fun f m h => by cases h
theorem Gz.need {R : F → List Tok → Prop} {c : Nat} {l : List Tok} {k : List Tok → PR} (hc' : c ≠ 56) (h : l.tail.length + 1 = l.length → Gz R (k l.tail)) : Gz R (need c l k) := by
  unfold Go.Proofs.YtlgkfhipobdcfabGreatDoor.need
  split
  · next e => exact h (tail_len (by rw [e]; exact hc'))
  · exact .bad _
theorem Gz.nam {R : F → List Tok → Prop} {q : Int} {l : List Tok} {k : F → List Tok → PR} (h : ∀ f, f.siz = 1 → l.tail.length + 1 = l.length → Gz R (k f l.tail)) : Gz R (nam q l k) := by
  unfold Go.Proofs.YtlgkfhipobdcfabGreatDoor.nam
  split
  · next e => exact h _ rfl (tail_len (by rw [e]; decide))
  · exact .bad _
theorem Gz.tgt {R : F → List Tok → Prop} {f : F} {x : PR} (h : Gz R x) : Gz R (tgt f x) := by
  unfold Go.Proofs.YtlgkfhipobdcfabGreatDoor.tgt; split
  · exact h
  · exact .bad _
theorem Gz.cnd {R : F → List Tok → Prop} {c : Prop} {i : Decidable c} {a b : PR} (h1 : c → Gz R a) (h2 : ¬ c → Gz R b) : Gz R (@ite _ c i a b) := by
  split
  · next h => exact h1 h
  · next h => exact h2 h
@[reducible] def Zs (j : J) (l : List Tok) (f : F) (m : List Tok) : Prop :=
  match j with
  | .blk _ => f.siz + 3 * m.length ≤ 3 * l.length + 1
  | .bk _ a => f.siz + 3 * m.length ≤ a.siz + 3 * l.length
  | .stat => f.siz + 3 * m.length + 1 ≤ 3 * l.length
  | .lst a => f.siz + 3 * m.length + 2 ≤ a.siz + 3 * l.length
  | .nms a => f.siz + 3 * m.length ≤ a.siz + 3 * l.length
  | .ifs a => f.siz + 3 * m.length + 2 ≤ a.siz + 3 * l.length
  | .asg a => f.siz + 3 * m.length ≤ a.siz + 3 * l.length
  | .ex _ => f.siz + 3 * m.length + 2 ≤ 3 * l.length
  | .exl _ g => f.siz + 3 * m.length ≤ g.siz + 3 * l.length
  | .opd => f.siz + 3 * m.length + 2 ≤ 3 * l.length
  | .suf => f.siz + 3 * m.length + 2 ≤ 3 * l.length
  | .sufl g => f.siz + 3 * m.length ≤ g.siz + 3 * l.length
  | .tab a => f.siz + 3 * m.length ≤ a.siz + 3 * l.length
  | .fld => f.siz + 3 * m.length + 1 ≤ 3 * l.length
section
variable {rec : J → List Tok → PR} (ih : ∀ j l, Gz (Zs j l) (rec j l))
include ih
theorem gz_body {R : F → List Tok → Prop} {l : List Tok} {k : F → List Tok → PR} (h : ∀ f m, f.siz + 3 * m.length + 5 ≤ 3 * l.length → Gz R (k f m)) : Gz R (bodyP rec l k) :=
  .need (by decide) fun e => .bind (ih (.blk false) _) fun f m h1 => .need (by decide) fun e2 => h f _ (by simp only [Zs] at h1; omega)
theorem gz_step (j : J) (l : List Tok) : Gz (Zs j l) (stp' rec j l) := by
  have tl : ∀ c, hc l = c → c ≠ 56 → l.tail.length + 1 = l.length := fun c h h2 => tail_len (by rw [h]; exact h2)
  cases j with
  | blk c => exact .bind (ih (.bk c .nil) l) fun f m h => .ok (by simp only [Zs, siz_one, F.siz] at h ⊢; omega)
  | bk c a =>
    refine .cnd (fun h => (ih (.bk c a) _).mono fun f m h1 => by have := tl _ h (by decide); simp only [Zs] at h1 ⊢; omega) fun _ => .cnd (fun h => ?_) fun _ => .cnd (fun h => ?_) fun _ => .cnd (fun _ => .ok (by simp only [Zs]; omega)) fun _ => .bind (ih .stat l) fun f m h1 => (ih (.bk c _) m).mono fun g m2 h2 => by simp only [Zs, F.siz_app] at h1 h2 ⊢; omega
    · have := tl _ h (by decide)
      refine .bind (Q := fun f m => f.siz + 3 * m.length ≤ 3 * l.length) ?_ fun f m h1 => .ok (by simp only [Zs, F.siz_app]; omega)
      refine .cnd (fun h2 => .ok ?_) fun _ => .cnd (fun _ => .ok (by simp only [siz_one, F.siz]; omega)) fun _ => .bind (ih (.lst .nil) _) fun f m h2 => .ok ?_
      · have : l.tail.tail.length ≤ l.tail.length := by simp
        simp only [siz_one, F.siz]; omega
      · simp only [Zs, F.siz] at h2
        have : (if hc m = 1 then m.tail else m).length ≤ m.length := by split <;> simp
        simp only [siz_one]; omega
    · have := tl _ h.2 (by decide)
      refine .bind (Q := fun f m => f.siz + 3 * m.length ≤ 3 * l.length) ?_ fun f m h1 => (ih (.bk c _) m).mono fun g m2 h2 => by simp only [Zs, F.siz_app] at h2 ⊢; omega
      refine .nam fun f hf e1 => .need (by decide) fun e2 => .bind (Q := fun ps m => ps.siz + 3 * m.length ≤ 3 * l.tail.tail.tail.length) (.cnd (fun _ => .ok (by simp only [F.siz]; omega)) fun _ => .nam fun g hg e3 => (ih (.nms g) _).mono fun ps m h3 => by simp only [Zs] at h3; omega) fun ps m h3 => .need (by decide) fun e4 => .bind (ih (.blk false) _) fun b m2 h4 => .need (by decide) fun e5 => .ok (by simp only [Zs] at h4; simp only [siz_one, F.siz_app]; omega)
  | stat =>
    refine .cnd (fun h => gz_body ih fun f m h1 => .ok (by simp only [Zs, siz_one]; omega)) fun _ => .cnd (fun h => ?_) fun _ => .cnd (fun h => ?_) fun _ => .cnd (fun h => ?_) fun _ => .cnd (fun h => ?_) fun _ => .cnd (fun h => .ok (by have := tl _ h (by decide); simp only [Zs, siz_one, F.siz]; omega)) fun _ => ?_
    · have := tl _ h (by decide)
      exact .bind (ih (.ex 0) _) fun f m h1 => gz_body ih fun b m2 h2 => .ok (by simp only [Zs, siz_one, F.siz_app] at h1 ⊢; omega)
    · have := tl _ h (by decide)
      exact .bind (ih (.ifs .nil) _) fun f m h1 => .ok (by simp only [Zs, siz_one, F.siz] at h1 ⊢; omega)
    · have := tl _ h (by decide)
      refine .nam fun f hf e1 => .cnd (fun h2 => ?_) fun _ => .bind (ih (.nms f) _) fun ns m h2 => .need (by decide) fun e2 => .bind (ih (.lst ns) _) fun g m2 h3 => gz_body ih fun b m3 h4 => .ok (by simp only [Zs, siz_one, F.siz_app] at h2 h3 ⊢; omega)
      have := tail_len (l := l.tail.tail) (by rw [h2]; decide)
      exact .bind (ih (.ex 0) _) fun a1 m h3 => .need (by decide) fun e2 => .bind (ih (.ex 0) _) fun a2 m2 h4 => .cnd (fun h5 => .bind (ih (.ex 0) _) fun a3 m3 h6 => gz_body ih fun b m4 h7 => .ok (by have := tail_len (l := m2) (by rw [h5]; decide); simp only [Zs, siz_one, F.siz_app] at h3 h4 h6 ⊢; omega)) fun _ => gz_body ih fun b m4 h7 => .ok (by simp only [Zs, siz_one, F.siz_app] at h3 h4 ⊢; omega)
    · have := tl _ h (by decide)
      exact .nam fun f hf e1 => .bind (ih (.nms f) _) fun ns m h2 => .cnd (fun h5 => .bind (ih (.lst ns) _) fun g m2 h3 => .ok (by have := tail_len (l := m) (by rw [h5]; decide); simp only [Zs, siz_one] at h2 h3 ⊢; omega)) fun _ => .ok (by simp only [Zs, siz_one] at h2 ⊢; omega)
    · exact .bind (ih .suf l) fun f m h1 => .cnd (fun _ => .tgt (.bind (ih (.asg f) _) fun ts m2 h2 => .need (by decide) fun e2 => .bind (ih (.lst ts) _) fun g m3 h3 => .ok (by simp only [Zs, siz_one] at h1 h2 h3 ⊢; omega))) fun _ => .cnd (fun _ => .ok (by simp only [Zs, siz_one] at h1 ⊢; omega)) fun _ => .bad _
  | lst a => exact .bind (ih (.ex 0) l) fun f m h1 => .cnd (fun h => (ih (.lst _) _).mono fun g m2 h2 => by have := tail_len (l := m) (by rw [h]; decide); simp only [Zs, F.siz_app] at h1 h2 ⊢; omega) fun _ => .ok (by simp only [Zs, F.siz_app] at h1 ⊢; omega)
  | nms a => exact .cnd (fun h => .nam fun f hf e1 => (ih (.nms _) _).mono fun g m2 h2 => by have := tl _ h (by decide); simp only [Zs, F.siz_app] at h2 ⊢; omega) fun _ => .ok (by simp only [Zs]; omega)
  | ifs a => exact .bind (Q := fun f m => f.siz + 3 * m.length + 2 ≤ a.siz + 3 * l.length) (.bind (ih (.ex 0) l) fun f m h1 => .need (by decide) fun e1 => .bind (ih (.blk false) _) fun b m2 h2 => .ok (by simp only [Zs, F.siz_app] at h1 h2 ⊢; omega)) fun f m h1 => .cnd (fun h => (ih (.ifs f) _).mono fun g m2 h2 => by have := tail_len (l := m) (by rw [h]; decide); simp only [Zs] at h2 ⊢; omega) fun _ => .cnd (fun h => .bind (ih (.blk false) _) fun b m2 h2 => .need (by decide) fun e2 => .ok (by have := tail_len (l := m) (by rw [h]; decide); simp only [Zs, F.siz_app] at h2 ⊢; omega)) fun _ => .need (by decide) fun e2 => .ok (by simp only [Zs]; omega)
  | asg a => exact .cnd (fun h => .bind (ih .suf _) fun f m h1 => .tgt ((ih (.asg _) m).mono fun g m2 h2 => by have := tl _ h (by decide); simp only [Zs, F.siz_app] at h1 h2 ⊢; omega)) fun _ => .ok (by simp only [Zs]; omega)
  | ex a => exact .bind (ih .opd l) fun f m h1 => (ih (.exl a f) m).mono fun g m2 h2 => by simp only [Zs] at h1 h2 ⊢; omega
  | exl a g => exact .cnd (fun h => .bind (ih (.ex _) _) fun f m h1 => (ih (.exl a _) m).mono fun g2 m2 h2 => by have := tail_len (l := l) (by intro e; rw [e] at h; exact absurd h (Nat.not_lt_zero a)); simp only [Zs, siz_one, F.siz_app] at h1 h2 ⊢; omega) fun _ => .ok (by simp only [Zs]; omega)
  | opd => exact .cnd (fun _ => ih .suf l) fun _ => .cnd (fun h => .bind (ih (.tab .nil) _) fun f m h1 => .need (by decide) fun e1 => .ok (by have := tl _ h (by decide); simp only [Zs, siz_one, F.siz] at h1 ⊢; omega)) fun _ => .cnd (fun h => .bind (ih .opd _) fun f m h1 => .ok (by have : l.tail.length + 1 = l.length := by { rcases h with h | h | h <;> exact tl _ h (by decide) }; simp only [Zs, siz_one] at h1 ⊢; omega)) fun _ => .cnd (fun h => .ok (by have := tl _ h (by decide); simp only [Zs, siz_one, F.siz]; omega)) fun _ => .cnd (fun h => .ok (by have := tl _ h (by decide); simp only [Zs, siz_one, F.siz]; omega)) fun _ => .cnd (fun h => .ok (by have := tl _ h (by decide); simp only [Zs, siz_one, F.siz]; omega)) fun _ => .cnd (fun h => .ok (by have := tl _ h (by decide); simp only [Zs, siz_one, F.siz]; omega)) fun _ => .cnd (fun h => .ok (by have := tl _ h (by decide); simp only [Zs, siz_one, F.siz]; omega)) fun _ => .bad _
  | suf => exact .bind (Q := fun f m => f.siz + 3 * m.length + 2 ≤ 3 * l.length) (.cnd (fun h => .bind (ih (.ex 0) _) fun f m h1 => .need (by decide) fun e1 => .ok (by have := tl _ h (by decide); simp only [Zs, siz_one] at h1 ⊢; omega)) fun _ => .nam fun f hf e1 => .ok (by omega)) fun f m h1 => (ih (.sufl f) m).mono fun g m2 h2 => by simp only [Zs] at h2 ⊢; omega
  | sufl g => exact .cnd (fun h => .bind (ih (.ex 0) _) fun f m h1 => .need (by decide) fun e1 => (ih (.sufl _) _).mono fun g2 m2 h2 => by have := tl _ h (by decide); simp only [Zs, siz_one, F.siz_app] at h1 h2 ⊢; omega) fun _ => .cnd (fun h => .nam fun f hf e1 => (ih (.sufl _) _).mono fun g2 m2 h2 => by have := tl _ h (by decide); simp only [Zs, siz_one, F.siz_app] at h2 ⊢; omega) fun _ => .cnd (fun h => .bind (Q := fun f m => f.siz + 3 * m.length ≤ g.siz + 3 * l.tail.length) (.cnd (fun h2 => .ok (by have := tail_len (l := l.tail) (by rw [h2]; decide); omega)) fun _ => .bind (ih (.lst g) _) fun f m h1 => .need (by decide) fun e1 => .ok (by simp only [Zs] at h1 ⊢; omega)) fun f m h1 => (ih (.sufl _) m).mono fun g2 m2 h2 => by have := tl _ h (by decide); simp only [Zs, siz_one] at h2 ⊢; omega) fun _ => .ok (by simp only [Zs]; omega)
  | tab a => exact .cnd (fun _ => .ok (by simp only [Zs]; omega)) fun _ => .bind (ih .fld l) fun f m h1 => .cnd (fun h => (ih (.tab _) _).mono fun g m2 h2 => by have : m.tail.length ≤ m.length := by { simp }; simp only [Zs, F.siz_app] at h1 h2 ⊢; omega) fun _ => .ok (by simp only [Zs, F.siz_app] at h1 ⊢; omega)
  | fld => exact .cnd (fun h => .bind (ih (.ex 0) _) fun f m h1 => .need (by decide) fun e1 => .need (by decide) fun e2 => .bind (ih (.ex 0) _) fun v m2 h2 => .ok (by have := tl _ h (by decide); simp only [Zs, siz_one, F.siz_app] at h1 h2 ⊢; omega)) fun _ => .cnd (fun h => .bind (ih (.ex 0) _) fun v m h1 => .ok (by have := tl _ h.1 (by decide); have := tail_len (l := l.tail) (by rw [h.2]; decide); simp only [Zs, siz_one, F.siz_app, F.siz] at h1 ⊢; omega)) fun _ => .bind (ih (.ex 0) l) fun v m h1 => .ok (by simp only [Zs, siz_one] at h1 ⊢; omega)
end
theorem gz_all : ∀ (n : Nat) (j : J) (l : List Tok), Gz (Zs j l) (pr n j l)
  | 0, _, _ => fun f m h => by cases h
  | n + 1, j, l => gz_step (gz_all n) j l
/-- Trees of a text are not great. -/
theorem prT_siz (l : List UInt8) : (prT l).1.siz ≤ 60010 := by
  unfold prT
  split
  · show noF.siz ≤ 60010
    decide
  · next hc =>
    have hc := Classical.byContradiction hc
    have hG := (scT_ok l hc).1
    have hl := (scT_ok l hc).2.1
    have hlen := GT.len _ _ hG
    cases hk : chk (scT l).1 with
    | bad p => show noF.siz ≤ 60010; decide
    | out => show noF.siz ≤ 60010; decide
    | ok f m =>
      show f.siz ≤ 60010
      unfold chk at hk
      cases hx : pr (8 * (scT l).1.length + 4) (.blk true) (scT l).1 with
      | bad p => rw [hx] at hk; cases hk
      | out => rw [hx] at hk; cases hk
      | ok g m2 =>
        have := gz_all _ _ _ g m2 hx
        rw [hx] at hk
        simp only [PR.bind] at hk
        split at hk
        · injection hk with h1 h2
          rw [← h1]
          simp only [Zs] at this
          omega
        · cases hk
end Go.Proofs.YtlgkfhipobdcfabGreatDoor

/- The walk of ParseWraps. -/
namespace Go.Proofs.YtlgkfhipobdcfabGreatDoor
open Go.RowKit

theorem F.nf_get : ∀ f : F, (∀ j k t n p ks, j < f.len → f.get? j = some (k, t, n, p, ks) → k ≠ 31) → f.nf
  | .nil, _ => trivial
  | .cons k t n p ks r, h => ⟨h 0 k t n p ks (by simp only [F.len]; omega) rfl, F.nf_get r fun j k' t' n' p' ks' hj hg => h (j + 1) k' t' n' p' ks' (by simp only [F.len]; omega) hg⟩

set_option maxRecDepth 20000 in
set_option maxHeartbeats 8000000 in
theorem wraps_walk (s : ByteArray) (W : World) (hs : s.size ≤ 9223372036854775807) : Calls Tryz.prog 4 #[.string s] W fun e w' => e = .returned (.bool true) ∧ Below W.heap.size W w' := by
  obtain ⟨⟨f, cd, x⟩, hq⟩ : ∃ r, prT s.data.toList = r := ⟨_, rfl⟩
  have hok := prT_ok s.data.toList
  have hsz0 := prT_siz s.data.toList
  rw [hq] at hok hsz0
  simp only at hok hsz0
  have hsl : s.data.toList.length = s.size := by rw [scT_len]
  go_enter Tryz.func4, Tryz.ntmps4
  go_wp2_with fail
  refine (fixed_any W).mono ?_; rintro e w0 ⟨rfl, hb0⟩
  have C1 := parse_any s w0 hs
  rw [hq] at C1
  simp only at C1
  have HB0 : Hid (Below W.heap.size W w0) := hb0
  clear hb0
  go_wp2_with fail
  refine C1.mono ?_; rintro e w1 ⟨k, t, n, p, a, c, ks, rfl, he, hT, hB⟩
  subst he
  obtain ⟨X, hX⟩ : ∃ X, w1.heap.size = X := ⟨_, rfl⟩
  have B1 := Bx.new w1 25 #[.int .i64 k, .string ⟨t.toArray⟩, .int .i64 n, .int .i64 p, .slice a ks.len c]
  have e1 : (w1.alloc (.cells #[.int .i64 k, .string ⟨t.toArray⟩, .int .i64 n, .int .i64 p, .slice a ks.len c] 25)).heap.size = X + 1 := by simp [hX]
  have B2 := Bx.new (w1.alloc (.cells #[.int .i64 k, .string ⟨t.toArray⟩, .int .i64 n, .int .i64 p, .slice a ks.len c] 25)) 28 #[.int .i64 cd, .int .i64 x]
  rw [e1] at B2
  have B1' := B1.alloc (.cells #[.int .i64 cd, .int .i64 x] 28)
  rw [hX] at B1'
  have K1 : Below X w1 ((w1.alloc (.cells #[.int .i64 k, .string ⟨t.toArray⟩, .int .i64 n, .int .i64 p, .slice a ks.len c] 25)).alloc (.cells #[.int .i64 cd, .int .i64 x] 28)) := ((Below.refl X w1).alloc (by omega) _).alloc (by rw [e1]; omega) _
  obtain ⟨V1, hV1⟩ : ∃ V1, (w1.alloc (.cells #[.int .i64 k, .string ⟨t.toArray⟩, .int .i64 n, .int .i64 p, .slice a ks.len c] 25)).alloc (.cells #[.int .i64 cd, .int .i64 x] 28) = V1 := ⟨_, rfl⟩
  rw [hV1] at B2 B1' K1
  have hTN : TN 25 V1 (fun g => g < X) k t n p (.slice a ks.len c) ks := (hT.mono (Q := fun g => g < X) fun g _ hg => hX ▸ hg).keep fun g _ hg => K1.block g (hX ▸ hg)
  have H1 : Hid (Bx X 25 #[.int .i64 k, .string ⟨t.toArray⟩, .int .i64 n, .int .i64 p, .slice a ks.len c] V1 ∧ Bx (X + 1) 28 #[.int .i64 cd, .int .i64 x] V1 ∧ Below W.heap.size W V1 ∧ TN 25 V1 (fun g => g < X) k t n p (.slice a ks.len c) ks ∧ ks.len ≤ maxLen) := ⟨B1', B2, (HB0.out.trans (hB.mono HB0.out.size)).trans (K1.mono (by have := HB0.out.size; have := hB.size; omega)), hTN, Nat.le_trans hT.cap.1 hT.cap.2⟩
  have hX2 := B1'.lt
  obtain ⟨a0, a1, a2', a3, a4⟩ := B1'.five
  have f0 : V1.cell? ⟨X + 1, 0, none⟩ = some (.int .i64 cd) := B2.c 0 _ rfl
  have HW : Hid (Below W.heap.size W V1) := H1.out.2.2.1
  have HXW : Hid (W.heap.size ≤ X) := by have := HB0.out.size; have := hB.size; show _ ≤ _; omega
  have HZ : Hid (ks.siz ≤ 60010) := Nat.le_trans (by rw [siz_one]; omega) hsz0
  clear hB hT B1 B1' B2 K1 e1 hTN C1 HB0 hsz0
  go_upto_region 4 with fail
  clear hV1
  by_cases hcd : cd = 0
  case neg =>
    have hne : (cd == 0) = false := by simpa using hcd
    clear hok
    go_wp2
    go_ret
    exact ⟨rfl, HW.out⟩
  by_cases hsz : s.size ≤ 19000
  case neg =>
    have h9 : (19000 : Int) < (s.size : Int) := by omega
    clear hok hsz
    subst hcd
    go_wp2
    go_ret
    exact ⟨rfl, HW.out⟩
  subst hcd
  have h8 : ¬ (19000 : Int) < (s.size : Int) := by omega
  obtain rfl : x = 0 := prT_zero _ _ _ hq
  obtain ⟨p', ks', he, -, -, -⟩ := hok rfl
  simp only [one, F.cons.injEq] at he
  obtain ⟨rfl, rfl, rfl, rfl, rfl, -⟩ := he
  clear hok
  go_wp2_with fail
  go_loopw [5] (fun iv wx => ∃ i : Nat, iv = .int .i64 (i : Nat) ∧ i ≤ ks.len ∧ wx = V1 ∧ Hid (∀ j k t n p kk, j < i → ks.get? j = some (k, t, n, p, kk) → k ≠ 31)) (fun iv _ => ks.len - (intOf iv).toNat)
  case atStart => exact ⟨0, rfl, Nat.zero_le _, rfl, fun j _ _ _ _ _ hj => absurd hj (Nat.not_lt_zero j)⟩
  case round =>
    obtain ⟨i, rfl, hi, rfl, HK⟩ := hrel
    by_cases hlt : i < ks.len
    case pos =>
      have h1 : (i : Int) < (ks.len : Int) := by omega
      have wi : IntKind.i64.wrap ((i : Int) + 1) = (i : Int) + 1 := by rw [IntKind.wrap_i64]; have : ks.len ≤ 9223372036854775807 := H1.out.2.2.2.2; omega
      obtain ⟨⟨k', t', n', p', kk⟩, hg⟩ := F.get_some ks i hlt
      obtain ⟨g, a', c', rfl, hgl, c0, -⟩ := H1.out.2.2.2.1.rw0.nth ks i 0 hg
      rw [Nat.zero_add] at c0
      have hms : ks.len - (i + 1) < ks.len - i := by omega
      by_cases hk : k' = 31
      · subst hk
        clear hq HK hg H1
        go_wp2
        go_ret
        exact ⟨rfl, HW.out⟩
      · have HN : Hid (∀ j k t n p kk, j < i + 1 → ks.get? j = some (k, t, n, p, kk) → k ≠ 31) := fun j k t n p kk hj hgj => by
          by_cases hji : j = i
          · subst hji
            rw [hg] at hgj
            simp only [Option.some.injEq, Prod.mk.injEq] at hgj
            rw [← hgj.1]; exact hk
          · exact HK.out j k t n p kk (by omega) hgj
        have hkb : (k' == 31) = false := by simpa using hk
        clear hq HK hg H1
        go_wp2_with fail
        go_round
        case rel => exact ⟨i + 1, by first | rfl | simp, by omega, by first | rfl | trivial, HN⟩
        case measure => first | omega | (simp only [intOf]; omega) | (simp; omega)
    case neg =>
      have h1 : ¬ (i : Int) < (ks.len : Int) := by omega
      have hnf : ks.nf := F.nf_get ks fun j k t n p kk hj hg => HK.out j k t n p kk (by omega) hg
      obtain ⟨p1, p2, p3, K, hC, hCs⟩ := prT_wrap s.data.toList (by rw [hsl]; exact hsz) hq hnf
      have hcat : (((⟨#[100, 111, 32]⟩ : ByteArray) ++ s) ++ ⟨#[10, 101, 110, 100]⟩).data.toList = (100 :: 111 :: 32 :: s.data.toList) ++ [10, 101, 110, 100] := by simp
      have C3 := parse_any (((⟨#[100, 111, 32]⟩ : ByteArray) ++ s) ++ ⟨#[10, 101, 110, 100]⟩) wr (by simp only [ByteArray.size_append]; have : (⟨#[100, 111, 32]⟩ : ByteArray).size = 3 := rfl; have : (⟨#[10, 101, 110, 100]⟩ : ByteArray).size = 4 := rfl; omega)
      rw [hcat, hC] at C3
      simp only at C3
      have Hs : Hid (K.sam ks ∧ K.siz ≤ 60010) := ⟨hCs, by have := prT_siz (100 :: 111 :: 32 :: s.data.toList ++ [10, 101, 110, 100]); rw [hC] at this; simp only [siz_one] at this; omega⟩
      clear hC hCs hcat hq hsl h8 hnf HK
      go_wp2_with fail
      refine C3.mono ?_; rintro e w3 ⟨k3, t3, n3, p4, a5, c3, ks4, rfl, he, hT, hB⟩
      simp only [one, F.cons.injEq] at he
      obtain ⟨rfl, rfl, rfl, rfl, rfl, -⟩ := he
      rw [show (F.cons 28 [] 0 p2 (F.cons 20 [] 0 p3 K F.nil) F.nil).len = 1 from rfl]
      have hXw := H1.out.1.below hB
      have hFw := H1.out.2.1.below hB
      have hKw : Below W.heap.size W w3 := HW.out.trans (hB.mono HW.out.size)
      obtain ⟨Z, hZ⟩ : ∃ Z, w3.heap.size = Z := ⟨_, rfl⟩
      have D3 := Bx.new w3 25 #[.int .i64 20, .string ⟨#[]⟩, .int .i64 0, .int .i64 p1, .slice a5 1 c3]
      have DX := hXw.alloc (.cells #[.int .i64 20, .string ⟨#[]⟩, .int .i64 0, .int .i64 p1, .slice a5 1 c3] 25)
      have DF := hFw.alloc (.cells #[.int .i64 20, .string ⟨#[]⟩, .int .i64 0, .int .i64 p1, .slice a5 1 c3] 25)
      have K1 : Below w3.heap.size w3 (w3.alloc (.cells #[.int .i64 20, .string ⟨#[]⟩, .int .i64 0, .int .i64 p1, .slice a5 1 c3] 25)) := (Below.refl _ w3).alloc (Nat.le_refl _) _
      obtain ⟨V4, hV4⟩ : ∃ V4, w3.alloc (.cells #[.int .i64 20, .string ⟨#[]⟩, .int .i64 0, .int .i64 p1, .slice a5 1 c3] 25) = V4 := ⟨_, rfl⟩
      rw [hV4] at D3 DX DF K1
      rw [hZ] at D3
      have hFlt := hFw.lt
      have f0 := DF.f 0
      have f1 := DF.f 1
      have d0 : V4.cell? ⟨X + 1, 0, none⟩ = some (.int .i64 0) := DF.c 0 _ rfl
      have d1 : V4.cell? ⟨X + 1, 1, none⟩ = some (.int .i64 0) := DF.c 1 _ rfl
      have DF5 := (DF.put (j := 0) (.int .i64 0)).put (j := 1) (.int .i64 0)
      have hXF : X ≠ X + 1 := by omega
      have hZF : Z ≠ X + 1 := by omega
      have DX5 := (DX.set (b := X + 1) (o := 0) hXF (.int .i64 0)).set (b := X + 1) (o := 1) hXF (.int .i64 0)
      have D35 := (D3.set (b := X + 1) (o := 0) hZF (.int .i64 0)).set (b := X + 1) (o := 1) hZF (.int .i64 0)
      have KF5 : Ky (fun k => k = X + 1) V4 ((V4.setCell ⟨X + 1, 0, none⟩ (.int .i64 0)).setCell ⟨X + 1, 1, none⟩ (.int .i64 0)) := ((Ky.refl _ _).setP _).setP _
      obtain ⟨V5, hV5⟩ : ∃ V5, (V4.setCell ⟨X + 1, 0, none⟩ (.int .i64 0)).setCell ⟨X + 1, 1, none⟩ (.int .i64 0) = V5 := ⟨_, rfl⟩
      rw [hV5] at DF5 DX5 D35 KF5
      have hs5 : V5.heap.size = V4.heap.size := by rw [← hV5]; simp
      have hTk : TN 25 V5 (fun g => g < X) 20 [] 0 p (.slice a ks.len c) ks := H1.out.2.2.2.1.keep fun g hg hgl => (KF5.block g (by have := K1.size; have := hB.size; omega) (by omega)).trans ((K1.block g (by have := hB.size; omega)).trans (hB.block g hgl))
      have hTm : TN 25 V5 (fun g => wr.heap.size ≤ g) 20 [] 0 p1 (.slice a5 1 c3) (one 28 [] 0 p2 (one 20 [] 0 p3 K)) := TN.keep (w := w3) hT fun g hg hgl => (KF5.block g (by have := K1.size; omega) (by have := H1.out.2.1.lt; omega)).trans (K1.block g hgl)
      have hRk := hTk.rw0
      have hRm : Rw V5 (fun g => wr.heap.size ≤ g) a5 0 (one 28 [] 0 p2 (one 20 [] 0 p3 K)) := TN.rw0 (c := c3) (k := 20) (t := []) (n := 0) (p := p1) hTm
      obtain ⟨g1, a6, c6, ha5, m1l, m1c0, m1c1, m1c2, m1c3, m1c4, hT6, -⟩ := Rw.next hRm
      obtain ⟨g2, a7, c7, ha6, m2l, m2c0, m2c1, m2c2, m2c3, m2c4, hT7, -⟩ := Rw.next hT6.rw0
      subst ha5 ha6
      rw [show (one 20 [] 0 p3 K).len = 1 from rfl] at m1c4
      simp only [Nat.zero_mul, Nat.zero_add] at m1c0 m1c1 m1c2 m1c3 m1c4 m2c0 m2c1 m2c2 m2c3 m2c4
      have HKW : Hid (Below W.heap.size W V5) := by
        have hx := HXW.out
        have h3 := hKw.size
        exact ⟨KF5.os.trans ((K1.os).trans hKw.os), KF5.tape.trans (K1.tape.trans hKw.tape), KF5.output.trans (K1.output.trans hKw.output), Nat.le_trans hKw.size (Nat.le_trans K1.size KF5.size), fun g hg => (KF5.block g (by have := K1.size; omega) (by omega)).trans ((K1.block g (by omega)).trans (hKw.block g hg))⟩
      obtain ⟨x0, x1, x2, x3, x4⟩ := DX5.five
      obtain ⟨z0, z1, z2, z3, z4⟩ := D35.five
      have k0 : V5.cell? ⟨X + 1, 0, none⟩ = some (.int .i64 0) := DF5.c 0 _ rfl
      have hXl := DX5.lt
      have hZl := D35.lt
      have hFl := DF5.lt
      obtain ⟨u, hu⟩ : ∃ u : Int, (((one 28 [] 0 p2 (one 20 [] 0 p3 K)).hgt + 1 : Nat) : Int) = u := ⟨_, rfl⟩
      obtain ⟨v, hv⟩ : ∃ v : Int, ((ks.hgt + 1 : Nat) : Int) = v := ⟨_, rfl⟩
      have wu : IntKind.i64.wrap (v + 2) = u := by
        have h1 : (one 28 [] 0 p2 (one 20 [] 0 p3 K)).hgt = ks.hgt + 2 := by
          rw [← hgt_sam K ks Hs.out.1]
          simp only [one, F.hgt]; omega
        have h2 := ks.hgt_siz
        have h3 := HZ.out
        rw [IntKind.wrap_i64]; rw [h1] at hu; omega
      have huu : (u == u) = true := by simp
      obtain ⟨Yc, F, F1, F2⟩ := class_of V5
      have HC : Hid (∃ x, V5.drew = F x) := F2 _ (Below.refl _ _).drew
      have HF1 : Hid (∀ x, Below V5.heap.size V5 (F x)) := F1
      have C8 : ∀ x, Calls Tryz.prog 8 #[(.agg #[.int .i64 20, .string ⟨#[]⟩, .int .i64 0, .int .i64 p3, .slice a7 K.len c7]), (.agg #[.int .i64 20, .string ⟨#[]⟩, .int .i64 0, .int .i64 p, .slice a ks.len c])] (F x) fun e w' => e = .returned (.bool true) ∧ ∃ y, w' = F y := fun x =>
        (same_any K.siz K ks (Nat.le_refl _) (Nat.le_trans hT7.cap.1 hT7.cap.2) (F x) _ _ 20 [] 0 p3 p a7 a c7 c (hT7.rw0.below (F1 x)) (hRk.below (F1 x)) Hs.out.1).mono fun e w' ⟨he, hw⟩ => ⟨he, F2 w' ((F1 x).trans (hw.mono (F1 x).size))⟩
      have C9a : ∀ x, Calls Tryz.prog 9 #[(.agg #[.int .i64 20, .string ⟨#[]⟩, .int .i64 0, .int .i64 p1, .slice (some ⟨g1, 0, none⟩) 1 c3])] (F x) fun e w' => e = .returned (.int .i64 u) ∧ ∃ y, w' = F y := fun x => by
        have h2 : (one 28 [] 0 p2 (one 20 [] 0 p3 K)).siz ≤ 1000000 := by have := Hs.out.2; simp only [siz_one]; omega
        have := height_any 1000000 (one 28 [] 0 p2 (one 20 [] 0 p3 K)) h2 (Nat.le_refl _) (F x) _ 20 [] 0 p1 (some ⟨g1, 0, none⟩) c3 (hRm.below (F1 x))
        rw [hu] at this
        exact this.mono fun e w' ⟨he, hw⟩ => ⟨he, F2 w' ((F1 x).trans (hw.mono (F1 x).size))⟩
      have C9b : ∀ x, Calls Tryz.prog 9 #[(.agg #[.int .i64 20, .string ⟨#[]⟩, .int .i64 0, .int .i64 p, .slice a ks.len c])] (F x) fun e w' => e = .returned (.int .i64 v) ∧ ∃ y, w' = F y := fun x => by
        have := height_any 1000000 ks (by have := HZ.out; omega) (Nat.le_refl _) (F x) _ 20 [] 0 p a c (hRk.below (F1 x))
        rw [hv] at this
        exact this.mono fun e w' ⟨he, hw⟩ => ⟨he, F2 w' ((F1 x).trans (hw.mono (F1 x).size))⟩
      have xx0 : ∀ x, (F x).cell? ⟨X, 0, none⟩ = some (.int .i64 20) := fun x => ((F1 x).cell hXl).trans x0
      have xx1 : ∀ x, (F x).cell? ⟨X, 1, none⟩ = some (.string ⟨#[]⟩) := fun x => ((F1 x).cell hXl).trans x1
      have xx2 : ∀ x, (F x).cell? ⟨X, 2, none⟩ = some (.int .i64 0) := fun x => ((F1 x).cell hXl).trans x2
      have xx3 : ∀ x, (F x).cell? ⟨X, 3, none⟩ = some (.int .i64 p) := fun x => ((F1 x).cell hXl).trans x3
      have xx4 : ∀ x, (F x).cell? ⟨X, 4, none⟩ = some (.slice a ks.len c) := fun x => ((F1 x).cell hXl).trans x4
      have zz0 : ∀ x, (F x).cell? ⟨Z, 0, none⟩ = some (.int .i64 20) := fun x => ((F1 x).cell hZl).trans z0
      have zz1 : ∀ x, (F x).cell? ⟨Z, 1, none⟩ = some (.string ⟨#[]⟩) := fun x => ((F1 x).cell hZl).trans z1
      have zz2 : ∀ x, (F x).cell? ⟨Z, 2, none⟩ = some (.int .i64 0) := fun x => ((F1 x).cell hZl).trans z2
      have zz3 : ∀ x, (F x).cell? ⟨Z, 3, none⟩ = some (.int .i64 p1) := fun x => ((F1 x).cell hZl).trans z3
      have zz4 : ∀ x, (F x).cell? ⟨Z, 4, none⟩ = some (.slice (some ⟨g1, 0, none⟩) 1 c3) := fun x => ((F1 x).cell hZl).trans z4
      have kk0 : ∀ x, (F x).cell? ⟨X + 1, 0, none⟩ = some (.int .i64 0) := fun x => ((F1 x).cell hFl).trans k0
      have r0 : ∀ x, (F x).cell? ⟨g1, 0, none⟩ = some (.int .i64 28) := fun x => ((F1 x).cell m1l).trans m1c0
      have r4 : ∀ x, (F x).cell? ⟨g1, 4, none⟩ = some (.slice (some ⟨g2, 0, none⟩) 1 c6) := fun x => ((F1 x).cell m1l).trans m1c4
      have s0 : ∀ x, (F x).cell? ⟨g2, 0, none⟩ = some (.int .i64 20) := fun x => ((F1 x).cell m2l).trans m2c0
      have s1 : ∀ x, (F x).cell? ⟨g2, 1, none⟩ = some (.string ⟨#[]⟩) := fun x => ((F1 x).cell m2l).trans m2c1
      have s2 : ∀ x, (F x).cell? ⟨g2, 2, none⟩ = some (.int .i64 0) := fun x => ((F1 x).cell m2l).trans m2c2
      have s3 : ∀ x, (F x).cell? ⟨g2, 3, none⟩ = some (.int .i64 p3) := fun x => ((F1 x).cell m2l).trans m2c3
      have s4 : ∀ x, (F x).cell? ⟨g2, 4, none⟩ = some (.slice a7 K.len c7) := fun x => ((F1 x).cell m2l).trans m2c4
      have HV4 : Hid (w3.alloc (.cells #[.int .i64 20, .string ⟨#[]⟩, .int .i64 0, .int .i64 p1, .slice (some ⟨g1, 0, none⟩) 1 c3] 25) = V4) := hV4
      haveI : Nonempty Yc := HC.out.elim fun x _ => ⟨x⟩
      clear F1 F2 hT6 hT7 hRm hRk hTm hTk m1c0 m1c1 m1c2 m1c3 m1c4 m2c0 m2c1 m2c2 m2c3 m2c4 hT hB hKw K1 KF5 DX5 D35 DF5 DX D3 DF hXw hFw hs5 hu hv HXW H1 HZ Hs x0 x1 x2 x3 x4 z0 z1 z2 z3 z4 k0
      go_upto_region 12 with fail
      clear hV4 hV5 HV4
      refine wp_class (F := F) (by kernel_rfl) (by kernel_rfl) HC.out ?_
      repeat (go_big_quiet_step (exact C8 _))
      go_big_quiet_step (exact C9a _)
      repeat (go_big_quiet_step (fail))
      go_big_quiet_step (exact C9b _)
      repeat (go_big_quiet_step (fail))
      refine wpQuiet_nil ?_
      intro _ hw'
      obtain ⟨x, rfl⟩ := hw'
      have K3 : Hid (Below V5.heap.size V5 (F x)) := HF1.out x
      clear HF1 C8 C9a C9b HC
      generalize F x = w6 at *
      go_wp2
      go_ret
      exact ⟨rfl, HKW.out.trans (K3.out.mono HKW.out.size)⟩
end Go.Proofs.YtlgkfhipobdcfabGreatDoor

/- Both tables: Len and Is of both. The numbers of the seat of BorderPlays. -/
import Derived.Test.YtoomlihccniooaaGreatCg35
import Derived.Test.YtoomlihccniooaaGreatCg36
import Derived.Test.YtoomlihccniooaaGreatCg38
namespace Go.Proofs.YtoomlihccniooaaGreat
open Go.RowKit
section
variable {No : Nat → Prop} {w : World} {RT A P ka va ca : Nat} {cb : Nat → Nat} {G c : Nat} {t : TS} {s : H.St}
/-- Len of the reference's table. -/
theorem rlen_any (h : RQ No w RT A P ka va ca cb G c t s) (hc : c ≤ 600000) (hh : 0 ≤ t.hint ∧ t.hint ≤ (t.p.n : Int)) :
    Calls Tryz.prog 10 #[.pointer (some ⟨RT, 0, none⟩)] w fun e w' => e = .returned (.int .i64 (_root_.Go.Proofs.YtoomlihccniooaaGreat.blen t).1) ∧ RQ No w' RT A P ka va ca cb G (c + 130) (_root_.Go.Proofs.YtoomlihccniooaaGreat.blen t).2 s ∧ Keep No w w' := by
  unfold blen
  by_cases q : t.p.n ≠ 0 ∧ sl t.p t.p.n = false
  · rw [if_pos q]
    exact rlen_in h hh q.1 q.2
  · rw [if_neg q]
    exact rlen_beh h hc q
end
section
variable {Q : Nat → Prop} {w w' : World} {T S hb RT G c : Nat} {t u : TS} {s s' : H.St}
/-- A call of the program's that leaves its blocks where they are. -/
theorem Bz.pcall (h : Bz Q w T S hb RT G c t s u s') {f : Nat} {args : Array Value} {v : Value} {t' : TS} {m : Nat} (hh : ∀ N1 A b a, TT N1 w T A b a S hb c t s → Calls Tryz.prog f args w fun e w' => e = .returned v ∧ TT N1 w' T A b a S hb (c + m) t' s ∧ Keep N1 w w') :
    Calls Tryz.prog f args w fun e w' => e = .returned v ∧ Bz Q w' T S hb RT G (c + m) t' s u s' ∧ Keep Q w w' := by
  obtain ⟨N1, N2, ⟨A, b, a, h1⟩, ⟨A', P, ka, va, ca, cb, h2⟩, h3, h4⟩ := h.tt
  refine (hh _ _ _ _ h1).mono ?_
  rintro e w' ⟨rfl, h', kk⟩
  have f2 := h2.frame (w' := w') ⟨kk.os, kk.tape, kk.output, kk.size, fun g hg hn => kk.block g hg ((h3 g hg).resolve_right hn)⟩
  refine ⟨rfl, ⟨⟨N1, _, ⟨A, b, a, h'⟩, ⟨A', P, ka, va, ca, cb, f2.more (by omega)⟩, fun g q => ?_, fun g q => ⟨(h4 g q).1, .inl (h4 g q).2⟩⟩⟩, kk.sub (fun g q => (h4 g q).1)⟩
  by_cases hg : g < w.heap.size
  · rcases h3 g hg with r | r
    · exact .inl r
    · exact .inr (.inl r)
  · exact .inr (.inr ⟨by omega, q⟩)
theorem Bz.rcall2 (h : Bz Q w T S hb RT G c t s u s') {f : Nat} {args : Array Value} {v : Value} {u' : TS} {m : Nat} (hh : ∀ N2 A P ka va ca cb, RQ N2 w RT A P ka va ca cb G c u s' → Calls Tryz.prog f args w fun e w' => e = .returned v ∧ RQ N2 w' RT A P ka va ca cb G (c + m) u' s' ∧ Keep N2 w w') :
    Calls Tryz.prog f args w fun e w' => e = .returned v ∧ Bz Q w' T S hb RT G (c + m) t s u' s' ∧ Keep Q w w' := by
  obtain ⟨N1, N2, ⟨A, b, a, h1⟩, ⟨A', P, ka, va, ca, cb, h2⟩, h3, h4⟩ := h.tt
  refine (hh _ _ _ _ _ _ _ h2).mono ?_
  rintro e w' ⟨rfl, h', kk⟩
  have f1 := h1.frame2 (w' := w') kk.os kk.tape kk.output kk.size (fun g hg hn => kk.block g hg ((h3 g hg).resolve_left hn))
  refine ⟨rfl, ⟨⟨_, N2, ⟨A, b, a, f1.more (by omega)⟩, ⟨A', P, ka, va, ca, cb, h'⟩, fun g q => ?_, fun g q => ⟨.inl (h4 g q).1, (h4 g q).2⟩⟩⟩, kk.sub (fun g q => (h4 g q).2)⟩
  by_cases hg : g < w.heap.size
  · rcases h3 g hg with r | r
    · exact .inl (.inl r)
    · exact .inr r
  · exact .inl (.inr ⟨by omega, q⟩)
theorem Bz.len (h : Bz Q w T S hb RT G c t s u s') (hc : c ≤ 600000) (hh : 0 ≤ t.hint ∧ t.hint ≤ (t.p.n : Int)) :
    Calls Tryz.prog 9 #[tp T] w fun e w' => e = .returned (.int .i64 (_root_.Go.Proofs.YtoomlihccniooaaGreat.blen t).1) ∧ Bz Q w' T S hb RT G (c + 131) (_root_.Go.Proofs.YtoomlihccniooaaGreat.blen t).2 s u s' ∧ Keep Q w w' :=
  h.pcall fun _ _ _ _ h1 => (len_any h1 (by omega) hh).mono fun _ _ q => ⟨q.1, q.2.1.more (by omega), q.2.2⟩
theorem Bz.is (h : Bz Q w T S hb RT G c t s u s') (hc : c ≤ 600000) (n : Int) (h0 : -9223372036854775808 ≤ n) (h1 : n ≤ (9223372036854775807 : Int)) :
    Calls Tryz.prog 11 #[tp T, .int .i64 n] w fun e w' => e = .returned (.bool (bis t n).1) ∧ Bz Q w' T S hb RT G (c + 2) (bis t n).2 s u s' ∧ Keep Q w w' :=
  h.pcall fun _ _ _ _ h2 => (is_any h2 (by omega) n h0 h1).mono fun _ _ q => ⟨q.1, q.2.1.more (by omega), q.2.2⟩
theorem Bz.rlen (h : Bz Q w T S hb RT G c t s u s') (hc : c ≤ 600000) (hh : 0 ≤ u.hint ∧ u.hint ≤ (u.p.n : Int)) :
    Calls Tryz.prog 10 #[tp RT] w fun e w' => e = .returned (.int .i64 (_root_.Go.Proofs.YtoomlihccniooaaGreat.blen u).1) ∧ Bz Q w' T S hb RT G (c + 130) t s (_root_.Go.Proofs.YtoomlihccniooaaGreat.blen u).2 s' ∧ Keep Q w w' :=
  h.rcall2 fun _ _ _ _ _ _ _ h2 => rlen_any h2 hc hh
theorem Bz.ris (h : Bz Q w T S hb RT G c t s u s') (hc : c ≤ 600000) (n : Int) (h0 : -9223372036854775808 ≤ n) (h1 : n ≤ (9223372036854775807 : Int)) :
    Calls Tryz.prog 12 #[tp RT, .int .i64 n] w fun e w' => e = .returned (.bool (bis u n).1) ∧ Bz Q w' T S hb RT G (c + 2) t s (bis u n).2 s' ∧ Keep Q w w' :=
  h.rcall2 fun _ _ _ _ _ _ _ h2 => ris_any h2 hc n h0 h1
end
end Go.Proofs.YtoomlihccniooaaGreat

/- The walks of the reference's Spend and Give. -/
import Derived.Test.YteknjkofmkigoabRh
namespace Go.Proofs.Yteknjkofmkigoab.H
open Go.RowKit

def rlv (r : Rs) : Int := rl r r.all.length
def rE (r : Rs) (n : Int) : Int := if n < 0 then 1 else if r.lim - rlv r < n then 10 else 0
def rspSt (r : Rs) (n : Int) : Rs := if rE r n = 0 then { r with sp := r.sp + n } else r
theorem Rp.set0 {No : Nat → Prop} {w : World} {S c : Nat} {va : Value} {r : Rs} (h : Rp No w S c va r) (i : Nat) (x : Int) (r' : Rs) (ha : r'.all = r.all) (he : #[.int .i64 r.lim, .int .i64 r.sp, .int .i64 r.ck, va].setIfInBounds i (.int .i64 x) = #[.int .i64 r'.lim, .int .i64 r'.sp, .int .i64 r'.ck, va]) : Rp No (w.setCell ⟨S, i, none⟩ (.int .i64 x)) S c va r' ∧ Keep No w (w.setCell ⟨S, i, none⟩ (.int .i64 x)) := by
  have hgs := gset w S i (.int .i64 x)
  refine ⟨⟨?_, ?_, by rw [ha]; exact h.len, h.noS, h.nov, fun q r => by have := h.nos q r; simpa using this⟩, (Keep.refl No w).grown hgs (fun q e => by cases e; exact h.noS)⟩
  · rw [← he]; exact heap_setCell_same w S i _ 50 _ h.str
  · rw [ha]; exact h.row.kept hgs (.inr h.apart.1)

set_option maxRecDepth 20000 in
set_option maxHeartbeats 1000000 in
theorem rspend_any {No : Nat → Prop} {w : World} {S c : Nat} {va : Value} {r : Rs} (h : Rp No w S c va r) (hc : c ≤ 1000000) (ok : Rok r) (hl0 : 0 ≤ r.lim) (hl1 : r.lim ≤ 400000) (hl2 : rlv r ≤ r.lim) (n : Int) :
    Calls Try.prog 29 #[.pointer (some ⟨S, 0, none⟩), .int .i64 n] w fun e w' => e = .returned (.int .i64 (rE r n)) ∧ Rp No w' S c va (rspSt r n) ∧ Keep No w w' := by
  have hb := rl_bd ok r.all.length (Nat.le_refl _)
  by_cases h0 : n < 0
  · have e : rE r n = 1 := by unfold rE; rw [if_pos h0]
    have e2 : rspSt r n = r := by unfold rspSt; rw [e, if_neg (by omega)]
    rw [e, e2]
    have HF : Hid _ := h
    clear h e e2 hb
    go_enter Try.func29, Try.ntmps29
    go_wp2_with fail
    go_ret
    exact ⟨rfl, HF.out, Keep.refl _ _⟩
  · have CL : ∀ m, Calls Try.prog 31 #[.pointer (some ⟨S, 0, none⟩)] (w.drewN m) fun e w' => e = .returned (.int .i64 (rlv r)) ∧ w' = w.drewN m := fun m => rlive_any (h.drewN m) hc ok
    have c0 := h.c0
    have c1 := h.c1
    have f1 := h.fr 1
    have hv0 : 0 ≤ rlv r := hb.1
    have hs0 := ok.s0
    have hs1 := ok.s1
    by_cases h1 : r.lim - rlv r < n
    · have e : rE r n = 10 := by unfold rE; rw [if_neg h0, if_pos h1]
      have e2 : rspSt r n = r := by unfold rspSt; rw [e, if_neg (by omega)]
      rw [e, e2]
      have HF : Hid _ := h
      clear h e e2 hb ok
      generalize rlv r = lv at *
      go_enter Try.func29, Try.ntmps29
      go_wp2_with fail
      go_quiet (exact Calls.quiet_of_same (CL _))
      go_wp2_with fail
      go_ret
      exact ⟨rfl, Rp.drewN HF.out _, (Keep.refl _ _).drewN _⟩
    · have e : rE r n = 0 := by unfold rE; rw [if_neg h0, if_neg h1]
      have e2 : rspSt r n = { r with sp := r.sp + n } := by unfold rspSt; rw [if_pos e]
      rw [e, e2]
      have HF : Hid (∀ m, Rp No ((w.drewN m).setCell ⟨S, 1, none⟩ (.int .i64 (r.sp + n))) S c va { r with sp := r.sp + n } ∧ Keep No (w.drewN m) ((w.drewN m).setCell ⟨S, 1, none⟩ (.int .i64 (r.sp + n)))) := fun m => (h.drewN m).set0 1 _ _ rfl rfl
      clear h e e2 hb ok
      generalize rlv r = lv at *
      go_enter Try.func29, Try.ntmps29
      go_wp2_with fail
      go_quiet (exact Calls.quiet_of_same (CL _))
      go_wp2_with fail
      go_ret
      exact ⟨rfl, (HF.out _).1, ((Keep.refl No w).drewN _).trans (HF.out _).2⟩

/-- Give: where the block is taken, the clock goes on. -/
def rGiven (r : Rs) (id : Int) : Prop := 1 ≤ id ∧ id ≤ (r.all.length : Int) ∧ (r.all.getD (id.toNat - 1) (0, 0)).2 ≤ 0
instance (r : Rs) (id : Int) : Decidable (rGiven r id) := inferInstanceAs (Decidable (_ ∧ _ ∧ _))
def rgE (r : Rs) (id : Int) : Int := if id = 0 then 0 else if rGiven r id then 0 else 1
def rgSt (r : Rs) (id : Int) : Rs := if rGiven r id then { r with ck := r.ck + 1, all := setG r.all (id.toNat - 1) (r.ck + 1) } else r
theorem Rp.setGiven {No : Nat → Prop} {w : World} {S c g cap : Nat} {r : Rs} (h : Rp No w S c (.slice (some ⟨g, 0, none⟩) r.all.length cap) r) (i : Nat) (hi : i < r.all.length) (t : Int) :
    Rp No (w.setCell ⟨g, i * 2 + 1, none⟩ (.int .i64 t)) S c (.slice (some ⟨g, 0, none⟩) r.all.length cap) { r with all := setG r.all i t } ∧ Keep No w (w.setCell ⟨g, i * 2 + 1, none⟩ (.int .i64 t)) := by
  obtain ⟨a1, lS⟩ := h.apart
  have hgs := gset w g (i * 2 + 1) (.int .i64 t)
  refine ⟨⟨(hgs.block S lS (fun e => a1 e.symm)).trans h.str, ?_, by show (setG r.all i t).length ≤ c; rw [setG_len]; exact h.len, h.noS, h.nov, fun q r => by have := h.nos q r; simpa using this⟩, (Keep.refl No w).grown hgs (fun q e => by cases e; exact h.nov g rfl)⟩
  show World.ownsRow _ 0 75 2 _ (setG r.all i t).length (rcells (setG r.all i t))
  rw [setG_len]
  refine ⟨by rw [rcells_len, setG_len], ?_⟩
  rcases h.row.2 with ⟨q, _⟩ | ⟨g', cap', cur, q, q1, q2, q3, q4, q5, q6⟩
  · cases q
  · injection q with qa _ qc
    injection qa with qa
    injection qa with qa _ _
    subst qa qc
    refine .inr ⟨g, cap, cur.setIfInBounds (i * 2 + 1) (.int .i64 t), rfl, q1, heap_setCell_same w g _ cur 75 _ q2, q3, q4, by simpa using q5, ?_⟩
    rw [← rcells_set _ _ hi, ← q6]
    simp only [Array.toList_setIfInBounds, List.take_set]

set_option maxRecDepth 20000 in
set_option maxHeartbeats 2000000 in
theorem rgive_any {No : Nat → Prop} {w : World} {S c : Nat} {va : Value} {r : Rs} (h : Rp No w S c va r) (hc : c ≤ 1000000) (hk0 : 0 ≤ r.ck) (hk1 : r.ck ≤ 1000000) (id : Int) :
    Calls Try.prog 28 #[.pointer (some ⟨S, 0, none⟩), .int .i64 id] w fun e w' => e = .returned (.int .i64 (rgE r id)) ∧ Rp No w' S c va (rgSt r id) ∧ Keep No w w' := by
  have c2 := h.c2
  have c3 := h.c3
  have f2 := h.fr 2
  have hlen := h.len
  have HF : Hid _ := h
  obtain ⟨a, cap, rfl, hcap, hcl⟩ := h.cells
  by_cases h0 : id = 0
  · subst h0
    have e2 : rgSt r 0 = r := by unfold rgSt; rw [if_neg (fun q => by have := q.1; omega)]
    rw [e2, show rgE r 0 = 0 from rfl]
    clear hcl h c2 c3
    go_enter Try.func28, Try.ntmps28
    go_wp2_with fail
    go_ret
    exact ⟨rfl, HF.out, Keep.refl _ _⟩
  · have h0' : (id == 0) = false := by simpa using h0
    by_cases hg : rGiven r id
    · have e1 : rgE r id = 0 := by unfold rgE; rw [if_neg h0, if_pos hg]
      have e2 : rgSt r id = { r with ck := r.ck + 1, all := setG r.all (id.toNat - 1) (r.ck + 1) } := by unfold rgSt; rw [if_pos hg]
      rw [e1, e2]
      obtain ⟨k, rfl⟩ : ∃ k : Nat, id = (k : Int) + 1 := ⟨id.toNat - 1, by have := hg.1; omega⟩
      have ek : ((k : Int) + 1).toNat - 1 = k := by omega
      rw [ek]
      have hk : k < r.all.length := by have := hg.2.1; omega
      obtain ⟨g, rfl, hgS, d0, d1, fz⟩ := hcl k hk
      have hx := hg.2.2
      rw [ek] at hx
      have fg := fz (k * 2 + 1)
      have hr1 := (h.set0 2 (r.ck + 1) { r with ck := r.ck + 1 } rfl rfl)
      have HG : Hid (Rp No ((w.setCell ⟨S, 2, none⟩ (.int .i64 (r.ck + 1))).drew.setCell ⟨g, k * 2 + 1, none⟩ (.int .i64 (r.ck + 1))) S c (.slice (some ⟨g, 0, none⟩) r.all.length cap) { r with ck := r.ck + 1, all := setG r.all k (r.ck + 1) } ∧ Keep No w ((w.setCell ⟨S, 2, none⟩ (.int .i64 (r.ck + 1))).drew.setCell ⟨g, k * 2 + 1, none⟩ (.int .i64 (r.ck + 1)))) := by
        have hr2 := Rp.setGiven (r := { r with ck := r.ck + 1 }) hr1.1.drew k hk (r.ck + 1)
        exact ⟨hr2.1, hr1.2.drew.trans hr2.2⟩
      have hkm : (k : Int) < (r.all.length : Int) := by omega
      have hkk : IntKind.i64.wrap ((k : Int) + 1 - 1) = (k : Int) := by rw [IntKind.wrap_i64]; omega
      clear hg e1 e2 hcl h HF hr1 fz hk ek
      generalize (r.all.getD k (0, 0)).2 = x at *
      obtain ⟨m, hm⟩ : ∃ m, r.all.length = m := ⟨_, rfl⟩
      rw [hm] at c3 hcap hlen hkm
      go_enter Try.func28, Try.ntmps28
      go_wp2_with fail
      go_region
      all_goals
        go_wp2_with fail
        go_ret
        exact ⟨rfl, HG.out.1, HG.out.2⟩
    · have e1 : rgE r id = 1 := by unfold rgE; rw [if_neg h0, if_neg hg]
      have e2 : rgSt r id = r := by unfold rgSt; rw [if_neg hg]
      rw [e1, e2]
      by_cases h1 : id < 0
      · clear hcl h hg e1 e2
        generalize r.all.length = m at *
        go_enter Try.func28, Try.ntmps28
        go_wp2_with fail
        go_ret
        exact ⟨rfl, HF.out, Keep.refl _ _⟩
      · by_cases h2 : (r.all.length : Int) < id
        · clear hcl h hg e1 e2
          obtain ⟨m, hm⟩ : ∃ m, r.all.length = m := ⟨_, rfl⟩
          rw [hm] at c3 hcap hlen h2
          clear hm
          go_enter Try.func28, Try.ntmps28
          go_wp2_with fail
          go_ret
          exact ⟨rfl, HF.out, Keep.refl _ _⟩
        · obtain ⟨k, rfl⟩ : ∃ k : Nat, id = (k : Int) + 1 := ⟨id.toNat - 1, by omega⟩
          have ek : ((k : Int) + 1).toNat - 1 = k := by omega
          have hk : k < r.all.length := by omega
          have hx : 0 < (r.all.getD k (0, 0)).2 := by
            rcases Int.lt_or_le 0 (r.all.getD k (0, 0)).2 with q | q
            · exact q
            · exact absurd ⟨by omega, by omega, by rw [ek]; exact q⟩ hg
          obtain ⟨g, rfl, hgS, d0, d1, fz⟩ := hcl k hk
          have hkm : (k : Int) < (r.all.length : Int) := by omega
          have hkk : IntKind.i64.wrap ((k : Int) + 1 - 1) = (k : Int) := by rw [IntKind.wrap_i64]; omega
          clear hcl h hg e1 e2 hk ek fz h2
          generalize (r.all.getD k (0, 0)).2 = x at *
          obtain ⟨m, hm⟩ : ∃ m, r.all.length = m := ⟨_, rfl⟩
          rw [hm] at c3 hcap hlen hkm
          clear hm
          go_enter Try.func28, Try.ntmps28
          go_wp2_with fail
          go_ret
          exact ⟨rfl, HF.out, Keep.refl _ _⟩
end Go.Proofs.Yteknjkofmkigoab.H

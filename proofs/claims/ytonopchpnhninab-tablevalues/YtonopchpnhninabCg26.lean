/- The walks of Dump, the nodes' and the table's. Seat ab's numbers. -/
import Derived.Test.YtonopchpnhninabCg25
import Derived.Test.YtonopchpnhninabCg07
namespace Go.Proofs.Ytonopchpnhninab
open Go.RowKit

set_option maxHeartbeats 1000000 in
theorem clone_any (a z cap : Nat) (F : Nat → Nat → Value) (w : World) (hv : Rc w a z F) (hlt : a < w.heap.size) (h1 : ∀ i j, (F i j).oneCell' = true) (hz : z ≤ 65536) :
    Calls Try.prog 57 #[.slice (some ⟨a, 0, none⟩) z cap] w fun e w' => ∃ g' c', e = .returned (.slice (some ⟨g', 0, none⟩) z c') ∧ Rc w' g' z F ∧ (∀ j, w'.frozen? ⟨g', j, none⟩ = false) ∧ w.heap.size ≤ g' ∧ g' < w'.heap.size ∧ Below w.heap.size w w' := by
  obtain ⟨g', c', W1, hr, H⟩ := clone_app a z cap F w hv hlt h1 hz
  have HH : Hid _ := H
  clear H h1
  have hn := notnil a z cap
  go_enter Try.func57, Try.ntmps57
  go_wp2_with (at_builtin; refine wp_app rfl _ _ 45 rfl 45 rfl _ _ rfl rfl hr ?_)
  go_ret
  exact ⟨g', c', rfl, HH.out⟩
set_option maxHeartbeats 1000000 in
theorem dump_any {b a z : Nat} {g : G} (w : World) (h : Pt w b a z g) (hz : z ≤ 65536) :
    Calls Try.prog 37 #[pp b] w fun e w' => ∃ g' c', e = .returned (.slice (some ⟨g', 0, none⟩) z c') ∧ Rc w' g' z (nf (pl z) g) ∧ (∀ j, w'.frozen? ⟨g', j, none⟩ = false) ∧ w.heap.size ≤ g' ∧ g' < w'.heap.size ∧ Below w.heap.size w w' := by
  have C := clone_any a z z (nf (pl z) g) w h.row h.lta (fun i j => nc_one _ _ _ _) hz
  have c1 := h.all
  clear h
  unfold pp
  go_enter Try.func37, Try.ntmps37
  go_wp2_with fail
  refine C.mono ?_; rintro e w' ⟨g', c', rfl, H⟩
  have HH : Hid _ := H
  clear H C
  go_wp2_with fail
  go_ret
  exact ⟨g', c', rfl, HH.out⟩

theorem vclone_app (A n cap : Nat) (F : Nat → V) (w : World) (hv : Rv w A n F) (hlt : A < w.heap.size) (hn : n ≤ 65536) :
    ∃ v' w', (Builtin.append_ #[44, 44] 44 #[.slice (some ⟨w.heap.size, 0, none⟩) 0 0, .slice (some ⟨A, 0, none⟩) n cap]).run Try.prog (w.alloc (.cells #[] 33)) = .ok v' w' ∧ Lv w' w.heap.size v' n F ∧ Below w.heap.size w w' := by
  obtain ⟨i0, hi, hz0, hz1, hz2⟩ := info_parts info32
  have hb0 : Below w.heap.size w (w.alloc (.cells #[] 33)) := b1 w _
  have hv2 : Rv (w.alloc (.cells #[] 33)) A n F := hv.block (hb0.block A hlt)
  obtain ⟨v', w', hr, hown, hg, hne⟩ := run_append_own (P := Try.prog) (w.alloc (.cells #[] 33)) w.heap.size 44 44 33 i0 (vl 0 0 ⟨#[]⟩) 3 32 Try.underlying44 hi hz0 hz1 hz2 rfl (by omega)
    (.slice (some ⟨w.heap.size, 0, none⟩) 0 0) 0 [] (World.ownsRow_made w #[] 0 (Nat.le_refl _) (Nat.zero_le _) rfl)
    ⟨A, 0, none⟩ n cap (cellsV F n) (cellsV_len F n) (fun j u hu => by
      have hj : j < n * 3 := by
        obtain ⟨h, _⟩ := List.getElem?_eq_some_iff.1 hu
        rw [cellsV_len] at h
        exact h
      rw [cellsV_at F n j hj] at hu
      have h2 := hv2.c (j / 3) (by omega) (j % 3) (by omega)
      have e : (Addr.add ⟨A, 0, none⟩ j) = ⟨A, j / 3 * 3 + j % 3, none⟩ := by
        have e2 : j / 3 * 3 + j % 3 = j := by omega
        rw [e2]
        by_cases hj0 : j = 0
        · subst hj0; rfl
        · simp [Addr.add, hj0]
      rw [e, h2]
      exact hu) (cellsV_one F n) (by simp only [maxLen]; omega) (by omega) (by simp)
  have hbel : Below w.heap.size w w' := hb0.grown hg (by simp) (fun k hk => by
    simp only [Value.ownBlock, Option.some.injEq] at hk
    omega)
  simp only [Nat.zero_add, List.nil_append] at hown
  exact ⟨v', w', hr, ⟨hown⟩, hbel⟩
theorem vnotnil (a z cap : Nat) (W : World) : (binOp .eql 44 (.slice (some ⟨a, 0, none⟩) z cap) (.slice none 0 0)).run Try.prog W = .ok (.bool false) W := by kernel_rfl
set_option maxHeartbeats 1000000 in
theorem vclone_any (A n cap : Nat) (F : Nat → V) (w : World) (hv : Rv w A n F) (hlt : A < w.heap.size) (hn : n ≤ 65536) :
    Calls Try.prog 36 #[.slice (some ⟨A, 0, none⟩) n cap] w fun e w' => ∃ v', e = .returned v' ∧ Lv w' w.heap.size v' n F ∧ Below w.heap.size w w' := by
  obtain ⟨v', W1, hr, H⟩ := vclone_app A n cap F w hv hlt hn
  have HH : Hid _ := H
  clear H hv
  have hn := vnotnil A n cap
  go_enter Try.func36, Try.ntmps36
  go_wp2_with (at_builtin; refine wp_app rfl _ _ 44 rfl 44 rfl _ _ rfl rfl hr ?_)
  go_ret
  exact ⟨v', rfl, HH.out⟩
/-- What Dump gives: v, the slots; the nodes in block g'. -/
structure Dt (w w' : World) (v : Value) (g' c' : Nat) (p : Pa) : Prop where
  lv : Lv w' w.heap.size v p.n p.F
  rc : Rc w' g' p.z (nf (pl p.z) p.g)
  fz : ∀ j, w'.frozen? ⟨g', j, none⟩ = false
  ge : w.heap.size ≤ g'
  lt : g' < w'.heap.size
  bel : Below w.heap.size w w'
set_option maxRecDepth 20000 in
set_option maxHeartbeats 2000000 in
theorem tdump_any {w : World} {T A b a S : Nat} {t : TS} (h : Tm w T A b a S t) (ti : TI t.p) :
    Calls Try.prog 14 #[tp T] w fun e w' => ∃ v g' c', e = .returned (.tuple #[v, .slice (some ⟨g', 0, none⟩) t.p.z c']) ∧ Dt w w' v g' c' t.p := by
  have c1 : w.cell? ⟨T, 1, none⟩ = some (.slice (some ⟨A, 0, none⟩) t.p.n t.p.n) := h.pm.c0
  have c2 : w.cell? ⟨T, 2, none⟩ = some (.pointer (some ⟨b, 0, none⟩)) := h.pm.c1
  have hD := h.below (bdrew1 w)
  have C1 := vclone_any A t.p.n t.p.n t.p.F w.drew hD.pm.sl hD.pm.ltA ti.le
  have HC2 : Hid (∀ w1, Below w.heap.size w w1 → w1.cell? ⟨T, 1, none⟩ = some (.slice (some ⟨A, 0, none⟩) t.p.n t.p.n) ∧ w1.cell? ⟨T, 2, none⟩ = some (.pointer (some ⟨b, 0, none⟩)) ∧ Calls Try.prog 37 #[pp b] w1 fun e w' => ∃ g' c', e = .returned (.slice (some ⟨g', 0, none⟩) t.p.z c') ∧ Rc w' g' t.p.z (nf (pl t.p.z) t.p.g) ∧ (∀ j, w'.frozen? ⟨g', j, none⟩ = false) ∧ w1.heap.size ≤ g' ∧ g' < w'.heap.size ∧ Below w1.heap.size w1 w') := fun w1 q => ⟨(h.below q).pm.c0, (h.below q).pm.c1, dump_any w1 (h.below q).pm.pt ti.rt.le⟩
  unfold tp
  clear h hD ti
  go_enter Try.func14, Try.ntmps14
  go_wp2_with fail
  go_region_with (first
    | (go_at_call 36; refine C1.mono ?_; rintro e w1 ⟨v', rfl, hl1, hb1⟩; have hB1 : Below w.heap.size w w1 := bthen (bdrew1 w) (Nat.le_refl _) hb1; obtain ⟨k1, k2, C2⟩ := HC2.out w1 hB1; have HL1 : Hid (Lv w1 w.heap.size v' t.p.n t.p.F ∧ Below w.heap.size w w1) := ⟨hl1, hB1⟩; unfold pp at C2; clear hl1 hb1 hB1)
    | (go_at_call 37; refine C2.mono ?_; rintro e w2 ⟨g', c', rfl, q1, q2, q3, q4, q5⟩; have HD : Hid (Dt w w2 v' g' c' t.p) := ⟨HL1.out.1.keep (No := fun _ => True) (Keep.of q5) (fun _ _ => trivial), q1, q2, Nat.le_trans HL1.out.2.size q3, q4, bthen HL1.out.2 HL1.out.2.size q5⟩; clear q1 q2 q3 q4 q5))
  all_goals
    go_wp2_with fail
    go_ret2
    exact ⟨v', g', c', rfl, HD.out⟩
theorem V2.dump {Q : Nat → Prop} {W w : World} {X : Nat} {xs : Value} {T S hb T' S' hb' c : Nat} {t u : TS} {s s' : H.St} (h : V2 Q W w X xs T S hb T' S' hb' c t u s s') :
    Calls Try.prog 14 #[tp T] w fun e w' => ∃ v g' c', e = .returned (.tuple #[v, .slice (some ⟨g', 0, none⟩) t.p.z c']) ∧ Dt w w' v g' c' t.p := by
  obtain ⟨N1, N2, ⟨A, b, a, h1⟩, _⟩ := h.tt
  exact tdump_any h1.tm h1.ti
end Go.Proofs.Ytonopchpnhninab

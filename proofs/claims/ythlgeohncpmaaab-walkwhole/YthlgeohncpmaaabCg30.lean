/- The walks of Dump, the nodes' and the table's.  -/
import Derived.Test.YthlgeohncpmaaabCg24
import Derived.Test.YthlgeohncpmaaabCg07
namespace Go.Proofs.Ythlgeohncpmaaab
open Go.RowKit

set_option maxHeartbeats 1000000 in
theorem clone_any (a z cap : Nat) (F : Nat → Nat → Value) (w : World) (hv : Rc w a z F) (hlt : a < w.heap.size) (h1 : ∀ i j, (F i j).oneCell' = true) (hz : z ≤ 65536) :
    Calls Try.prog 54 #[.slice (some ⟨a, 0, none⟩) z cap] w fun e w' => ∃ g' c', e = .returned (.slice (some ⟨g', 0, none⟩) z c') ∧ Rc w' g' z F ∧ (∀ j, w'.frozen? ⟨g', j, none⟩ = false) ∧ w.heap.size ≤ g' ∧ g' < w'.heap.size ∧ Below w.heap.size w w' := by
  obtain ⟨g', c', W1, hr, H⟩ := clone_app a z cap F w hv hlt h1 hz
  have HH : Hid _ := H
  clear H h1
  have hn := notnil a z cap
  go_enter Try.func54, Try.ntmps54
  go_wp2_with (at_builtin; refine wp_app rfl _ _ 52 rfl 52 rfl _ _ rfl rfl hr ?_)
  go_ret
  exact ⟨g', c', rfl, HH.out⟩
set_option maxHeartbeats 1000000 in
theorem dump_any {b a z : Nat} {g : G} (w : World) (h : Pt w b a z g) (hz : z ≤ 65536) :
    Calls Try.prog 36 #[pp b] w fun e w' => ∃ g' c', e = .returned (.slice (some ⟨g', 0, none⟩) z c') ∧ Rc w' g' z (nf (pl z) g) ∧ (∀ j, w'.frozen? ⟨g', j, none⟩ = false) ∧ w.heap.size ≤ g' ∧ g' < w'.heap.size ∧ Below w.heap.size w w' := by
  have C := clone_any a z z (nf (pl z) g) w h.row h.lta (fun i j => nc_one _ _ _ _) hz
  have c1 := h.all
  clear h
  unfold pp
  go_enter Try.func36, Try.ntmps36
  go_wp2_with fail
  refine C.mono ?_; rintro e w' ⟨g', c', rfl, H⟩
  have HH : Hid _ := H
  clear H C
  go_wp2_with fail
  go_ret
  exact ⟨g', c', rfl, HH.out⟩

theorem vclone_app (A n cap : Nat) (F : Nat → V) (w : World) (hv : Rv w A n F) (hlt : A < w.heap.size) (hn : n ≤ 65536) :
    ∃ v' w', (Builtin.append_ #[36, 36] 36 #[.slice (some ⟨w.heap.size, 0, none⟩) 0 0, .slice (some ⟨A, 0, none⟩) n cap]).run Try.prog (w.alloc (.cells #[] 33)) = .ok v' w' ∧ Lv w' w.heap.size v' n F ∧ Below w.heap.size w w' := by
  obtain ⟨i0, hi, hz0, hz1, hz2⟩ := info_parts info32
  have hb0 : Below w.heap.size w (w.alloc (.cells #[] 33)) := b1 w _
  have hv2 : Rv (w.alloc (.cells #[] 33)) A n F := hv.block (hb0.block A hlt)
  obtain ⟨v', w', hr, hown, hg, hne⟩ := run_append_own (P := Try.prog) (w.alloc (.cells #[] 33)) w.heap.size 36 36 33 i0 (vl 0 0 ⟨#[]⟩) 3 32 Try.underlying36 hi hz0 hz1 hz2 rfl (by omega)
    (.slice (some ⟨w.heap.size, 0, none⟩) 0 0) 0 [] (World.ownsRow_made w #[] 0 (Nat.le_refl _) (Nat.zero_le _) rfl)
    ⟨A, 0, none⟩ n cap (cellsV F n) (cellsV_len F n) (fun j u hu => by
      have hj : j < n * 3 := by
        obtain ⟨h, _⟩ := List.getElem?_eq_some_iff.1 hu
        rw [cellsV_len] at h
        exact h
      rw [cellsV_at F n j hj] at hu
      have h2 := hv2.c (j / 3) (by omega) (j % 3) (by omega)
      have e : (Addr.add ⟨A, 0, none⟩ j) = ⟨A, j / 3 * 3 + j % 3, none⟩ := by
        have e2 : j / 3 * 3 + j % 3 = j := by omega
        rw [e2]
        by_cases hj0 : j = 0
        · subst hj0; rfl
        · simp [Addr.add, hj0]
      rw [e, h2]
      exact hu) (cellsV_one F n) (by simp only [maxLen]; omega) (by omega) (by simp)
  have hbel : Below w.heap.size w w' := hb0.grown hg (by simp) (fun k hk => by
    simp only [Value.ownBlock, Option.some.injEq] at hk
    omega)
  simp only [Nat.zero_add, List.nil_append] at hown
  exact ⟨v', w', hr, ⟨hown⟩, hbel⟩
theorem vnotnil (a z cap : Nat) (W : World) : (binOp .eql 36 (.slice (some ⟨a, 0, none⟩) z cap) (.slice none 0 0)).run Try.prog W = .ok (.bool false) W := by kernel_rfl
set_option maxHeartbeats 1000000 in
theorem vclone_any (A n cap : Nat) (F : Nat → V) (w : World) (hv : Rv w A n F) (hlt : A < w.heap.size) (hn : n ≤ 65536) :
    Calls Try.prog 35 #[.slice (some ⟨A, 0, none⟩) n cap] w fun e w' => ∃ v', e = .returned v' ∧ Lv w' w.heap.size v' n F ∧ Below w.heap.size w w' := by
  obtain ⟨v', W1, hr, H⟩ := vclone_app A n cap F w hv hlt hn
  have HH : Hid _ := H
  clear H hv
  have hn := vnotnil A n cap
  go_enter Try.func35, Try.ntmps35
  go_wp2_with (at_builtin; refine wp_app rfl _ _ 36 rfl 36 rfl _ _ rfl rfl hr ?_)
  go_ret
  exact ⟨v', rfl, HH.out⟩
/-- What Dump gives: v, the slots; the nodes in block g'. -/
structure Dt (w w' : World) (v : Value) (g' c' : Nat) (p : Pa) : Prop where
  lv : Lv w' w.heap.size v p.n p.F
  rc : Rc w' g' p.z (nf (pl p.z) p.g)
  fz : ∀ j, w'.frozen? ⟨g', j, none⟩ = false
  ge : w.heap.size ≤ g'
  lt : g' < w'.heap.size
  bel : Below w.heap.size w w'
set_option maxRecDepth 20000 in
set_option maxHeartbeats 2000000 in
theorem tdump_any {w : World} {T A b a S : Nat} {t : TS} (h : Tm w T A b a S t) (ti : TI t.p) :
    Calls Try.prog 18 #[tp T] w fun e w' => ∃ v g' c', e = .returned (.tuple #[v, .slice (some ⟨g', 0, none⟩) t.p.z c']) ∧ Dt w w' v g' c' t.p := by
  have c1 : w.cell? ⟨T, 1, none⟩ = some (.slice (some ⟨A, 0, none⟩) t.p.n t.p.n) := h.pm.c0
  have c2 : w.cell? ⟨T, 2, none⟩ = some (.pointer (some ⟨b, 0, none⟩)) := h.pm.c1
  have hD := h.below (bdrew1 w)
  have C1 := vclone_any A t.p.n t.p.n t.p.F w.drew hD.pm.sl hD.pm.ltA ti.le
  have HC2 : Hid (∀ w1, Below w.heap.size w w1 → w1.cell? ⟨T, 1, none⟩ = some (.slice (some ⟨A, 0, none⟩) t.p.n t.p.n) ∧ w1.cell? ⟨T, 2, none⟩ = some (.pointer (some ⟨b, 0, none⟩)) ∧ Calls Try.prog 36 #[pp b] w1 fun e w' => ∃ g' c', e = .returned (.slice (some ⟨g', 0, none⟩) t.p.z c') ∧ Rc w' g' t.p.z (nf (pl t.p.z) t.p.g) ∧ (∀ j, w'.frozen? ⟨g', j, none⟩ = false) ∧ w1.heap.size ≤ g' ∧ g' < w'.heap.size ∧ Below w1.heap.size w1 w') := fun w1 q => ⟨(h.below q).pm.c0, (h.below q).pm.c1, dump_any w1 (h.below q).pm.pt ti.rt.le⟩
  unfold tp
  clear h hD ti
  go_enter Try.func18, Try.ntmps18
  go_wp2_with fail
  go_region_with (first
    | (go_at_call 35; refine C1.mono ?_; rintro e w1 ⟨v', rfl, hl1, hb1⟩; have hB1 : Below w.heap.size w w1 := bthen (bdrew1 w) (Nat.le_refl _) hb1; obtain ⟨k1, k2, C2⟩ := HC2.out w1 hB1; have HL1 : Hid (Lv w1 w.heap.size v' t.p.n t.p.F ∧ Below w.heap.size w w1) := ⟨hl1, hB1⟩; unfold pp at C2; clear hl1 hb1 hB1)
    | (go_at_call 36; refine C2.mono ?_; rintro e w2 ⟨g', c', rfl, q1, q2, q3, q4, q5⟩; have HD : Hid (Dt w w2 v' g' c' t.p) := ⟨HL1.out.1.keep (No := fun _ => True) (Keep.of q5) (fun _ _ => trivial), q1, q2, Nat.le_trans HL1.out.2.size q3, q4, bthen HL1.out.2 HL1.out.2.size q5⟩; clear q1 q2 q3 q4 q5))
  all_goals
    go_wp2_with fail
    go_ret2
    exact ⟨v', g', c', rfl, HD.out⟩
end Go.Proofs.Ythlgeohncpmaaab

/- Who has a place (no program in it): what is present keeps one over a Set; a key has one just where an array's slot or a node is its own. -/
namespace Go.Proofs.Ythlgeohncpmaaab
open Go.RowKit

theorem inA_fm {n : Nat} {k : V} (h : inA n k) : fm k = true ∧ k.1 ≠ 0 ∧ k.2.1 ≠ 0 := by
  obtain ⟨h1, h2, h3, h4⟩ := h
  refine ⟨?_, by omega, by omega⟩
  unfold fm inF
  rw [h1, h2]
  simp [ByteArray.toList_eq]
theorem pres_plc {p : Pa} {k : V} (h : (pget p k).1 ≠ 0) : plc p k ≠ 0 ∧ fm k = true ∧ k.1 ≠ 0 := by
  unfold pget at h
  unfold plc
  by_cases hA : inA p.n k
  · obtain ⟨a1, a2, a3⟩ := inA_fm hA
    rw [if_pos hA]
    exact ⟨a3, a1, a2⟩
  · rw [if_neg hA] at h ⊢
    unfold mg at h
    unfold fnd at h ⊢
    by_cases hb : p.z = 0 ∨ fm k = false ∨ k.1 = 0
    · rw [if_pos hb] at h; exact absurd rfl h
    · rw [if_neg hb] at h ⊢
      have h1 : fm k = true := by
        cases hf : fm k
        · exact absurd (.inr (.inl hf)) hb
        · rfl
      have h2 : k.1 ≠ 0 := fun e => hb (.inr (.inr e))
      cases hf : (find (pl p.z) p.g k).1 with
      | none => rw [hf] at h; exact absurd rfl h
      | some i => exact ⟨by simp only; omega, h1, h2⟩
theorem wnx_ok {p : Pa} {k : V} (h1 : plc p k ≠ 0) (h2 : fm k = true) : (wnx p k).2.2 = 0 := by
  unfold wnx
  rw [if_neg (by rw [h2]; decide)]
  by_cases hk : k.1 = 0
  · rw [if_pos hk]
  · rw [if_neg hk, if_neg h1]
theorem set_plc {t : TS} {s : H.St} {k v : V} (h : (pget t.p k).1 ≠ 0) : (wnx (tset t s k v).1.p k).2.2 = 0 := by
  obtain ⟨h1, h2, h3⟩ := pres_plc h
  unfold tset
  by_cases hf : fm k = true ∧ fm v = true
  · rw [if_neg (fun q => q hf), if_neg h3]
    have key : (pset t.p k v).2.2 = 0 ∧ plc (pset t.p k v).1 k ≠ 0 := by
      unfold pset
      by_cases hA : inA t.p.n k
      · rw [if_pos hA]
        refine ⟨rfl, ?_⟩
        unfold plc
        rw [if_pos hA]
        exact (inA_fm hA).2.2
      · rw [if_neg hA]
        unfold pget at h
        rw [if_neg hA] at h
        unfold mg fnd at h
        by_cases hb : t.p.z = 0 ∨ fm k = false ∨ k.1 = 0
        · rw [if_pos hb] at h; exact absurd rfl h
        · rw [if_neg hb] at h
          have hz : t.p.z ≠ 0 := fun e => hb (.inl e)
          rcases hfi : find (pl t.p.z) t.p.g k with ⟨_ | i, m⟩
          · rw [hfi] at h; exact absurd rfl h
          · have hp : put t.p.z t.p.g k v = (setX t.p.g i v, m, 0) := by
              unfold put
              rw [if_pos hf, if_neg h3, if_neg hz, hfi]
            rw [hp]
            refine ⟨rfl, ?_⟩
            unfold plc
            rw [if_neg hA]
            have hf2 : (fnd t.p.z (setX t.p.g i v) k).1 = some i := by
              unfold fnd
              rw [if_neg hb]
              have e : find (pl t.p.z) (setX t.p.g i v) k = find (pl t.p.z) t.p.g k := rfl
              rw [e, hfi]
            simp only
            rw [hf2]
            simp only
            omega
    rw [if_pos (by rw [key.1]; decide)]
    exact wnx_ok key.2 h2
  · rw [if_pos hf]
    exact wnx_ok h1 h2
/-- Is a key held: by the array, or by one of the first i nodes? -/
def heldN (p : Pa) (k : V) : Nat → Bool
  | 0 => decide (k.1 = 0 ∨ (k.1 = 2 ∧ 1 ≤ k.2.1 ∧ k.2.1 ≤ (p.n : Int)))
  | i + 1 => heldN p k i || decide (p.g.K i = k)
theorem heldN_iff (p : Pa) (k : V) : ∀ i, heldN p k i = true ↔ (k.1 = 0 ∨ (k.1 = 2 ∧ 1 ≤ k.2.1 ∧ k.2.1 ≤ (p.n : Int))) ∨ ∃ j, j < i ∧ p.g.K j = k
  | 0 => by simp [heldN]
  | i + 1 => by
    rw [heldN, Bool.or_eq_true, heldN_iff p k i, decide_eq_true_eq]
    constructor
    · rintro ((h | ⟨j, h1, h2⟩) | h)
      · exact .inl h
      · exact .inr ⟨j, by omega, h2⟩
      · exact .inr ⟨i, by omega, h⟩
    · rintro (h | ⟨j, h1, h2⟩)
      · exact .inl (.inl h)
      · by_cases e : j = i
        · subst e; exact .inr h2
        · exact .inl (.inr ⟨j, by omega, h2⟩)
theorem fm_two {k : V} (h : fm k = true) (h2 : k.1 = 2) : k.2.2 = ⟨#[]⟩ := by
  unfold fm inF at h
  rw [h2] at h
  simp only [show ((2 : Int) = 0) = False by simp, show ((2 : Int) = 1) = False by simp, if_false, if_true] at h
  have : k.2.2.toList = [] := by simpa using h
  rw [ByteArray.toList_eq] at this
  obtain ⟨_, _, ⟨⟨l⟩⟩⟩ := k
  simp at this ⊢
  exact this
/-- What Next answers of a key in form. -/
theorem held_next {p : Pa} (h : TI p) {k : V} (hf : fm k = true) (hr : Rng k) : (wnx p k).2.2 = if heldN p k p.z = true then 0 else 9 := by
  by_cases hk : k.1 = 0
  · rw [if_pos ((heldN_iff p k p.z).2 (.inl (.inl hk)))]
    unfold wnx
    rw [if_neg (by rw [hf]; decide), if_pos hk]
  · have hok : KOK k := ⟨hf, hk, hr.1, hr.2⟩
    have key : heldN p k p.z = true ↔ plc p k ≠ 0 := by
      rw [heldN_iff]
      unfold plc
      by_cases hA : inA p.n k
      · rw [if_pos hA]
        exact ⟨fun _ => (inA_fm hA).2.2, fun _ => .inl (.inr ⟨hA.1, hA.2.2.1, hA.2.2.2⟩)⟩
      · rw [if_neg hA]
        constructor
        · rintro ((h0 | ⟨h1, h2, h3⟩) | ⟨j, h1, h2⟩)
          · exact absurd h0 hk
          · exact absurd ⟨h1, fm_two hf h1, h2, h3⟩ hA
          · have hn : p.g.K j ≠ nil := by rw [h2]; exact hok.ne
            have := plc_node h h1 hn
            rw [h2] at this
            unfold plc at this
            rw [if_neg hA] at this
            rw [this]
            omega
        · intro hp
          right
          by_cases hz : p.z = 0
          · exfalso
            apply hp
            unfold fnd
            rw [if_pos (.inl hz)]
          · rw [fnd_good hz hok] at hp
            rcases hfi : find (pl p.z) p.g k with ⟨_ | i, m⟩
            · rw [hfi] at hp; exact absurd rfl hp
            · obtain ⟨g1, g2, _⟩ := h.inv.find_some (fun k _ => pl_lt (h.rt.resolve_left hz) k) hok hfi
              exact ⟨i, g2, g1⟩
    unfold wnx
    rw [if_neg (by rw [hf]; decide), if_neg hk]
    by_cases hp : plc p k = 0
    · rw [if_pos hp, if_neg (fun q => key.1 q hp)]
    · rw [if_neg hp, if_pos (key.2 hp)]
end Go.Proofs.Ythlgeohncpmaaab

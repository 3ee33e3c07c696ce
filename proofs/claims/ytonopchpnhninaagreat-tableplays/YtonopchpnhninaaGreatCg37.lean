/- The reference's Dump: the links as they are set chain by chain; its row in memory. -/
import Derived.Test.YtonopchpnhninaaGreatCg24
namespace Go.Proofs.YtonopchpnhninaaGreat
open Go.RowKit

section
variable {z : Nat} {pl : V → Nat} {ok : V → Prop} {g : G}
/-- The links that are set when all chains before c are done, and k numbers of chain c. -/
def lq (pl : V → Nat) (g : G) (c k i : Nat) : Int := if pl (g.K i) < c ∨ (pl (g.K i) = c ∧ i ∈ (g.C c).take k) then link pl g i else 0
theorem lq_zero (i : Nat) : lq pl g 0 0 i = 0 := by rw [lq, if_neg]; rintro (h | ⟨_, h⟩); omega; simp at h
theorem chain_at {l : List Nat} {k : Nat} (h : k < l.length) : l = l.take k ++ l.getD k 0 :: l.drop (k + 1) := by
  rw [← drop_getD h, List.take_append_drop]
theorem Inv.lq_link (h : Inv z pl ok g) {c k : Nat} (hc : c < z) (hk : k + 1 < (g.C c).length) : link pl g ((g.C c).getD k 0) = ((g.C c).getD (k + 1) 0 : Nat) - ((g.C c).getD k 0 : Nat) := by
  have e1 := chain_at (l := g.C c) (k := k) (by omega)
  rw [drop_getD (l := g.C c) (i := k + 1) hk] at e1
  rw [h.lk_link (i := (g.C c).getD k 0) (c := (g.C c).getD (k + 1) 0 :: (g.C c).drop (k + 1 + 1)) (.inl ⟨c, _, hc, e1⟩), nx]
theorem Inv.lq_step (h : Inv z pl ok g) {c k : Nat} (hc : c < z) (hk : k < (g.C c).length) (i : Nat) : lq pl g c (k + 1) i = if i = (g.C c).getD k 0 then link pl g i else lq pl g c k i := by
  have hm : (g.C c).getD k 0 ∈ g.C c := by simp [List.getD, hk]
  have ht : (g.C c).take (k + 1) = (g.C c).take k ++ [(g.C c).getD k 0] := by
    rw [List.take_add_one, List.getElem?_eq_getElem hk]
    simp [List.getD, hk]
  have hp := (h.cok c hc _ hm).2.2
  generalize (g.C c).getD k 0 = x at *
  unfold lq
  rw [ht]
  by_cases e : i = x
  · subst e
    rw [if_pos (.inr ⟨hp, by simp⟩), if_pos rfl]
  · rw [if_neg e]
    by_cases h1 : pl (g.K i) < c
    · rw [if_pos (.inl h1), if_pos (.inl h1)]
    · by_cases h2 : pl (g.K i) = c ∧ i ∈ (g.C c).take k
      · rw [if_pos (.inr ⟨h2.1, List.mem_append_left _ h2.2⟩), if_pos (.inr h2)]
      · rw [if_neg (by
          rintro (q | ⟨q1, q2⟩)
          · exact h1 q
          · rcases List.mem_append.1 q2 with q3 | q3
            · exact h2 ⟨q1, q3⟩
            · exact e (by simpa using q3)), if_neg (by
          rintro (q | q)
          · exact h1 q
          · exact h2 q)]
theorem Inv.lq_end (h : Inv z pl ok g) {c k i : Nat} (hc : c < z) (hk : (g.C c).length ≤ k + 1) (hi : i < z) : lq pl g c k i = lq pl g (c + 1) 0 i := by
  unfold lq
  by_cases h1 : pl (g.K i) < c
  · rw [if_pos (.inl h1), if_pos (.inl (by omega))]
  · by_cases h2 : pl (g.K i) = c
    · rw [if_pos (c := _ ∨ _) (t := link pl g i) (.inl (show pl (g.K i) < c + 1 by omega))]
      by_cases h3 : i ∈ (g.C c).take k
      · rw [if_pos (.inr ⟨h2, h3⟩)]
      · rw [if_neg (by
          rintro (q | q)
          · exact h1 q
          · exact h3 q.2)]
        by_cases hn : g.K i = nil
        · rw [link_no hn]
        · have hm := h.inC i hi hn
          rw [h2] at hm
          have e1 : g.C c = (g.C c).take k ++ (g.C c).drop k := (List.take_append_drop _ _).symm
          have hd : i ∈ (g.C c).drop k := by
            rw [e1] at hm
            rcases List.mem_append.1 hm with q | q
            · exact absurd q h3
            · exact q
          have hl : ((g.C c).drop k).length ≤ 1 := by rw [List.length_drop]; omega
          have e2 : (g.C c).drop k = [i] := by
            match hx : (g.C c).drop k with
            | [] => rw [hx] at hd; cases hd
            | [y] => rw [hx] at hd; simp at hd; rw [hd]
            | y :: y' :: t => rw [hx] at hl; simp at hl
          rw [e2] at e1
          rw [h.lk_link (i := i) (c := []) (.inl ⟨c, _, hc, e1⟩), nx]
          intro _ _ _ q; cases q
    · rw [if_neg (by
        rintro (q | q)
        · exact h1 q
        · exact h2 q.1), if_neg (by
        rintro (q | q)
        · omega
        · simp at q)]
theorem Inv.lq_all (h : Inv z pl ok g) (hpl : ∀ k, ok k → pl k < z) {i : Nat} (hi : i < z) : lq pl g z 0 i = link pl g i := by
  unfold lq
  by_cases hn : g.K i = nil
  · rw [link_no hn]; split <;> rfl
  · rw [if_pos (.inl (hpl _ ((h.key i hi).resolve_left hn)))]
end

theorem info56 : (Tryz.prog.info? 122).map (fun i => (i.zero, i.size, i.bytes)) = some (some (vn nil nil 0), 7, 72) := by kernel_rfl
theorem make_row (m : Nat) (hm : m ≤ 65536) (W : World) : (Instr.makeSlice 98 (.int .i64 m) (.int .i64 m)).run Tryz.prog W = .ok (.slice (some ⟨W.heap.size, 0, none⟩) m m) (W.alloc (.cells (zeros7 m) 122)) := by
  obtain ⟨i0, hi, hz0, hz1, hz2⟩ := info_parts info56
  have h := run_make (P := Tryz.prog) W 98 122 i0 (vn nil nil 0) Tryz.underlying98 hi hz0 .i64 .i64 m m (by omega) (Int.le_refl _) (by rw [hz2]; omega) (by omega)
  rw [hz1] at h
  simpa using h
theorem made_row (w : World) (n : Nat) : Rc (w.alloc (.cells (zeros7 n) 122)) w.heap.size n (fun _ j => nc nil nil 0 j) := ⟨fun i hi j hj => by
  rw [cell_of_row (MapKept.heap_alloc w _).1]
  have h : i * 7 + j < n * 7 := by omega
  have hm : (i * 7 + j) % 7 = j := by omega
  have h' : i * 7 < n * 7 := by omega
  rcases lt7 hj with rfl | rfl | rfl | rfl | rfl | rfl | rfl <;> simp [zeros7, madeCells, Value.cells, nc, h, h', hm]⟩

/-- The row in block D, beside the part. -/
structure Ds (w wr : World) (D S ka va ca z : Nat) (g : G) (cb : Nat → Nat) (F : Nat → Nat → Value) : Prop where
  rc : Rc wr D z F
  rp : Rp wr S ka va ca z g cb
  fd : ∀ j, wr.frozen? ⟨D, j, none⟩ = false
  kp : Keep (fun y => y < D) w wr
  lt : D < wr.heap.size
  no : ∀ x, Rp.Own S ka va ca z g cb x → x ≠ D
variable {w wr : World} {D S ka va ca z : Nat} {g : G} {cb : Nat → Nat} {F F' : Nat → Nat → Value}
theorem Ds.congr (h : Ds w wr D S ka va ca z g cb F) (he : ∀ i, i < z → ∀ j, j < 7 → F i j = F' i j) : Ds w wr D S ka va ca z g cb F' := ⟨h.rc.congr he, h.rp, h.fd, h.kp, h.lt, h.no⟩
theorem Ds.drew (h : Ds w wr D S ka va ca z g cb F) : Ds w wr.drew D S ka va ca z g cb F := ⟨h.rc.block rfl, h.rp.below (bdrew1 _), h.fd, h.kp.drew, h.lt, h.no⟩
theorem Ds.set (h : Ds w wr D S ka va ca z g cb F) {i0 j0 : Nat} (hi : i0 < z) (hj : j0 < 7) (v : Value) : Ds w (wr.setCell ⟨D, i0 * 7 + j0, none⟩ v) D S ka va ca z g cb (fun i j => if i = i0 ∧ j = j0 then v else F i j) :=
  ⟨h.rc.set hi hj v, h.rp.kept (No := fun y => y ≠ D) ((Keep.refl _ _).set (p := ⟨D, _, none⟩) (fun q => q rfl) _) h.no, fun j => by simpa using h.fd j, h.kp.set (p := ⟨D, _, none⟩) (fun q => Nat.lt_irrefl _ q) _, Nat.lt_of_lt_of_le h.lt (by simp [World.setCell]), h.no⟩
/-- The key of a node, then its value, is stored. -/
abbrev setAi (w : World) (b i : Nat) (x : V) : World := ((w.setCell ⟨b, i * 7, none⟩ (.int .i64 x.1)).setCell ⟨b, i * 7 + 1, none⟩ (.int .i64 x.2.1)).setCell ⟨b, i * 7 + 2, none⟩ (.string x.2.2)
abbrev setBi (w : World) (b i : Nat) (x : V) : World := ((w.setCell ⟨b, i * 7 + 3, none⟩ (.int .i64 x.1)).setCell ⟨b, i * 7 + 4, none⟩ (.int .i64 x.2.1)).setCell ⟨b, i * 7 + 5, none⟩ (.string x.2.2)
def kf (g : G) (n i j : Nat) : Value := if i < n then nc (g.K i) (g.X i) 0 j else nc nil nil 0 j
def kg (g : G) (n i j : Nat) : Value := if i < n then nc (g.K i) (g.X i) 0 j else if i = n then nc (g.K i) nil 0 j else nc nil nil 0 j
theorem Ds.setAi {n : Nat} (h : Ds w wr D S ka va ca z g cb (kf g n)) (hi : n < z) : Ds w (Proofs.YtonopchpnhninaaGreat.setAi wr D n (g.K n)) D S ka va ca z g cb (kg g n) := by
  refine (((h.set hi (j0 := 0) (by omega) (.int .i64 (g.K n).1)).set hi (j0 := 1) (by omega) (.int .i64 (g.K n).2.1)).set hi (j0 := 2) (by omega) (.string (g.K n).2.2)).congr ?_
  intro i _ j hj
  unfold kf kg
  by_cases e : i = n
  · subst e
    rcases lt7 hj with rfl | rfl | rfl | rfl | rfl | rfl | rfl <;> simp [nc]
  · simp [e]
theorem Ds.setBi {n : Nat} (h : Ds w wr D S ka va ca z g cb (kg g n)) (hi : n < z) : Ds w (Proofs.YtonopchpnhninaaGreat.setBi wr D n (g.X n)) D S ka va ca z g cb (kf g (n + 1)) := by
  refine (((h.set hi (j0 := 3) (by omega) (.int .i64 (g.X n).1)).set hi (j0 := 4) (by omega) (.int .i64 (g.X n).2.1)).set hi (j0 := 5) (by omega) (.string (g.X n).2.2)).congr ?_
  intro i _ j hj
  unfold kf kg
  by_cases e : i = n
  · subst e
    rcases lt7 hj with rfl | rfl | rfl | rfl | rfl | rfl | rfl <;> simp [nc]
  · have e2 : i < n + 1 ↔ i < n := by omega
    simp [e, e2]
/-- The links, as far as they are set. -/
def lf (pl : V → Nat) (g : G) (c k i j : Nat) : Value := nc (g.K i) (g.X i) (lq pl g c k i) j
theorem Ds.setL {pl : V → Nat} {ok : V → Prop} {c k : Nat} (h : Ds w wr D S ka va ca z g cb (lf pl g c k)) (hv : Inv z pl ok g) (hc : c < z) (hk : k + 1 < (g.C c).length) :
    Ds w (wr.setCell ⟨D, (g.C c).getD k 0 * 7 + 6, none⟩ (.int .i64 (((g.C c).getD (k + 1) 0 : Nat) - ((g.C c).getD k 0 : Nat)))) D S ka va ca z g cb (lf pl g c (k + 1)) := by
  have hx : (g.C c).getD k 0 ∈ g.C c := by
    have : k < (g.C c).length := by omega
    simp [List.getD, this]
  refine (h.set (i0 := (g.C c).getD k 0) (j0 := 6) (hv.cok c hc _ hx).1 (by omega) _).congr ?_
  intro i _ j hj
  unfold lf
  rw [hv.lq_step hc (by omega) i]
  by_cases e : i = (g.C c).getD k 0
  · rw [if_pos e, e, hv.lq_link hc hk]
    rcases lt7 hj with rfl | rfl | rfl | rfl | rfl | rfl | rfl <;> simp [nc]
  · rw [if_neg e, if_neg (fun q => e q.1)]
theorem Ds.endL {pl : V → Nat} {ok : V → Prop} {c k : Nat} (h : Ds w wr D S ka va ca z g cb (lf pl g c k)) (hv : Inv z pl ok g) (hc : c < z) (hk : (g.C c).length ≤ k + 1) : Ds w wr D S ka va ca z g cb (lf pl g (c + 1) 0) :=
  h.congr fun i hi j _ => by unfold lf; rw [hv.lq_end hc hk hi]
theorem Ds.made (h : Rp w S ka va ca z g cb) : Ds w (w.alloc (.cells (zeros7 z) 122)) w.heap.size S ka va ca z g cb (kf g 0) :=
  ⟨(made_row w z).congr fun i _ j _ => by simp [kf], h.below (b1 _ _), new_free w _ _, Keep.of (b1 _ _), by simp, fun x hx => Nat.ne_of_lt (h.own_lt hx)⟩
theorem Ds.links (h : Ds w wr D S ka va ca z g cb (kf g z)) (pl : V → Nat) : Ds w wr D S ka va ca z g cb (lf pl g 0 0) :=
  h.congr fun i hi j _ => by unfold lf kf; rw [if_pos hi, lq_zero]
theorem Ds.done {pl : V → Nat} {ok : V → Prop} (h : Ds w wr D S ka va ca z g cb (lf pl g z 0)) (hv : Inv z pl ok g) (hpl : ∀ k, ok k → pl k < z) : Rc wr D z (nf pl g) :=
  h.rc.congr fun i hi j _ => by unfold lf nf; rw [hv.lq_all hpl hi]
end Go.Proofs.YtonopchpnhninaaGreat

/- The walk of the reference's Dump. -/
namespace Go.Proofs.YtonopchpnhninaaGreat
open Go.RowKit

set_option maxRecDepth 100000 in
set_option maxHeartbeats 8000000 in
theorem rdump_any {S ka va ca z : Nat} {g : G} {cb : Nat → Nat} (w : World) (h : Rp w S ka va ca z g cb) (hi : Inv z (pl z) KOK g) (hz : Rt z) :
    Calls Tryz.prog 51 #[pp S] w fun e w' => e = .returned (.slice (some ⟨w.heap.size, 0, none⟩) z z) ∧ Rc w' w.heap.size z (nf (pl z) g) ∧ w.heap.size < w'.heap.size ∧ Below w.heap.size w w' := by
  have hzb := hz.le
  have mk := make_row z hzb w
  have s0 := h.s0
  have D1 := Ds.made h
  have HI : Hid _ := hi
  have HPL : Hid (0 < z → ∀ k, KOK k → pl z k < z) := fun h0 k _ => pl_lt (hz.resolve_left (by omega)) k
  obtain ⟨W1, hW1⟩ : ∃ W1, w.alloc (.cells (zeros7 z) 122) = W1 := ⟨_, rfl⟩
  rw [hW1] at mk D1
  have HD1 : Hid _ := D1
  clear h hi hz hW1 D1
  obtain ⟨D, hD⟩ : ∃ D, w.heap.size = D := ⟨_, rfl⟩
  have HSZ : Hid (w.heap.size = D) := hD
  rw [hD] at mk HD1 ⊢
  clear hD
  unfold pp
  go_enter Tryz.func51, Tryz.ntmps51
  go_wp2_with fail
  go_loopw [4] (fun iw wr => ∃ i : Nat, iw = .int .i64 (i : Nat) ∧ i ≤ z ∧ Hid (Ds w wr D S ka va ca z g cb (kf g i))) (fun iw _ => z - (intOf iw).toNat)
  case atStart => exact ⟨0, rfl, by omega, HD1⟩
  case round =>
    obtain ⟨i, rfl, hil, HDi⟩ := hrel
    clear HD1 mk s0
    by_cases hlt : i < z
    · have hlt' : (i : Int) < (z : Int) := by omega
      have q0 := HDi.out.rp.s0
      have q1 := HDi.out.rp.s1
      obtain ⟨x0, x1, x2⟩ := HDi.out.rp.k.at hlt
      obtain ⟨y0, y1, y2⟩ := HDi.out.rp.v.at hlt
      have c0 : wr.cell? ⟨D, i * 7, none⟩ = some (kf g i i 0) := HDi.out.rc.c i hlt 0 (by omega)
      have c1 := HDi.out.rc.c i hlt 1 (by omega)
      have c2 := HDi.out.rc.c i hlt 2 (by omega)
      have f0 := HDi.out.fd
      have HA := HDi.out.setAi hlt
      obtain ⟨W2, hW2⟩ : ∃ W2, setAi wr D i (g.K i) = W2 := ⟨_, rfl⟩
      rw [hW2] at HA
      have r0 := HA.rp.s0
      have r1 := HA.rp.s1
      obtain ⟨u0, u1, u2⟩ := HA.rp.k.at hlt
      obtain ⟨v0, v1, v2⟩ := HA.rp.v.at hlt
      have c3 := HA.rc.c i hlt 3 (by omega)
      have c4 := HA.rc.c i hlt 4 (by omega)
      have c5 := HA.rc.c i hlt 5 (by omega)
      have f1 := HA.fd
      have HB := HA.setBi hlt
      obtain ⟨W3, hW3⟩ : ∃ W3, setBi W2 D i (g.X i) = W3 := ⟨_, rfl⟩
      rw [hW3] at HB
      have HB3 : Hid _ := HB
      unfold setAi at hW2
      unfold setBi at hW3
      clear HA HB
      go_wp2_with fail
      go_region
      all_goals
        go_wp2_with fail
        go_round
        case rel => exact ⟨i + 1, by go_num, by omega, HB3.out.drew⟩
        case measure => simp [intOf]; omega
    · have hlt' : ¬ (i : Int) < (z : Int) := by omega
      have hiz : i = z := by omega
      subst hiz
      have HL : Hid _ := HDi.out.links (pl i)
      clear HDi hlt
      go_wp2_with fail
      go_loopw [5] (fun iw wr => ∃ c : Nat, iw = .int .i64 (c : Nat) ∧ c ≤ i ∧ Hid (Ds w wr D S ka va ca i g cb (lf (pl i) g c 0))) (fun iw _ => i - (intOf iw).toNat)
      case atStart => exact ⟨0, rfl, by omega, HL⟩
      case round =>
        obtain ⟨c, rfl, hcl, HC⟩ := hrel
        clear HL
        have q2 := HC.out.rp.s2
        by_cases hc : c < i
        · have hc' : (c : Int) < (i : Int) := by omega
          obtain ⟨u, hu, hul⟩ := HC.out.rp.c c hc
          rcases hul with ⟨he, rfl⟩ | ⟨cap, hne, rfl, hcb, hcf, hcc⟩
          · have HE : Hid _ := HC.out.endL HI.out hc (by rw [he]; simp)
            clear he HC
            go_wp2_with fail
            go_loopw [7] (fun iw wr' => iw = .int .i64 (0 : Nat) ∧ wr' = wr) (fun iw _ => 0)
            case atStart => exact ⟨rfl, rfl⟩
            case round =>
              obtain ⟨rfl, rfl⟩ := hrel
              go_wp2_with fail
              go_round
              case rel => exact ⟨c + 1, by go_num, by omega, HE⟩
              case measure => simp [intOf]; omega
          · have hlen : (g.C c).length ≤ i := nodup_len (HI.out.nd c hc) (fun x hx => (HI.out.cok c hc x hx).1)
            have hl0 : 0 < (g.C c).length := List.length_pos_iff.2 hne
            have HXZ : Hid (∀ t, t < (g.C c).length → (g.C c).getD t 0 < i) := fun t ht => (HI.out.cok c hc _ (by simp [List.getD, ht])).1
            have HSET : Hid (∀ k wr', k + 1 < (g.C c).length → Ds w wr' D S ka va ca i g cb (lf (pl i) g c k) → Ds w (wr'.setCell ⟨D, (g.C c).getD k 0 * 7 + 6, none⟩ (.int .i64 (((g.C c).getD (k + 1) 0 : Nat) - ((g.C c).getD k 0 : Nat)))) D S ka va ca i g cb (lf (pl i) g c (k + 1))) := fun k wr' hk hD => hD.setL HI.out hc hk
            have HEND : Hid (∀ k wr', (g.C c).length ≤ k + 1 → Ds w wr' D S ka va ca i g cb (lf (pl i) g c k) → Ds w wr' D S ka va ca i g cb (lf (pl i) g (c + 1) 0)) := fun k wr' hk hD => hD.endL HI.out hc hk
            have HCC : Hid (∀ wr' F, Ds w wr' D S ka va ca i g cb F → ∀ t, t < (g.C c).length → wr'.cell? ⟨cb c, t, none⟩ = some (.int .i64 (((g.C c).getD t 0 : Nat) : Int))) := fun wr' F hD t ht => by
              obtain ⟨u', hu', hul'⟩ := hD.rp.c c hc
              rcases hul' with ⟨e, _⟩ | ⟨_, _, _, _, _, q⟩
              · exact absurd e hne
              · exact q t ht
            clear hne hcb hcf hcc
            obtain ⟨l, hl⟩ : ∃ l, g.C c = l := ⟨_, rfl⟩
            rw [hl] at hlen hl0 HXZ HSET HEND HCC hu
            clear hl
            go_wp2_with fail
            go_loopw [7] (fun iw wr' => ∃ k : Nat, iw = .int .i64 (k : Nat) ∧ k + 1 ≤ l.length ∧ Hid (Ds w wr' D S ka va ca i g cb (lf (pl i) g c k))) (fun iw _ => l.length - (intOf iw).toNat)
            case atStart => exact ⟨0, rfl, by omega, HC⟩
            case round =>
              obtain ⟨k, rfl, hkl, HK⟩ := hrel
              clear HC
              by_cases hk : k + 1 < l.length
              · have hk' : (k : Int) < (l.length : Int) - 1 := by omega
                have a0 := HCC.out wr _ HK.out k (by omega)
                have a1 := HCC.out wr _ HK.out (k + 1) hk
                have b0 := HXZ.out k (by omega)
                have b1 := HXZ.out (k + 1) hk
                have HN : Hid _ := HSET.out k wr hk HK.out
                have l6 := HK.out.rc.c (l.getD k 0) b0 6 (by omega)
                have fd := HK.out.fd
                generalize l.getD k 0 = x at *
                generalize l.getD (k + 1) 0 = y at *
                have b0' : (x : Int) < (i : Int) := by omega
                have hk1 : (k : Int) < (l.length : Int) := by omega
                have hk2 : (k : Int) + 1 < (l.length : Int) := by omega
                clear HK
                go_wp2_with fail
                go_region
                all_goals
                  go_wp2_with fail
                  go_round
                  case rel => exact ⟨k + 1, by go_num, by omega, HN.out.drew⟩
                  case measure => simp [intOf]; omega
              · have hk' : ¬ (k : Int) < (l.length : Int) - 1 := by omega
                have HE : Hid _ := HEND.out k wr (by omega) HK.out
                clear HK hk
                go_wp2_with fail
                go_round
                case rel => exact ⟨c + 1, by go_num, by omega, HE⟩
                case measure => simp [intOf]; omega
        · have hc' : ¬ (c : Int) < (i : Int) := by omega
          have hci : c = i := by omega
          subst hci
          have HF : Hid (Rc wr D c (nf (pl c) g) ∧ D < wr.heap.size ∧ Below D w wr) := ⟨by
            by_cases h0 : 0 < c
            · exact HC.out.done HI.out (HPL.out h0)
            · exact ⟨fun i hi => by omega⟩, HC.out.lt, HC.out.kp.below (HSZ.out ▸ Nat.le_refl _) (fun g hg => hg)⟩
          clear HC
          go_wp2_with fail
          go_ret
          exact ⟨rfl, HF.out⟩
end Go.Proofs.YtonopchpnhninaaGreat

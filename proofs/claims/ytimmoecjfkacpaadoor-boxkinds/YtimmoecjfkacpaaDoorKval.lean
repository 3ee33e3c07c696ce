/- How a list of values that came in is read; the law at a nil list. -/
import Derived.Test.YtimmoecjfkacpaaDoorKinds
import Derived.Test.YtimmoecjfkacpaaDoorVal
import Derived.Deep.Slices
namespace Go.Proofs.YtimmoecjfkacpaaDoor
open Go.RowKit Go.ChangeShapes Go.WideShapes Go.Deep

theorem elem_val {H : Type} {enc : TypeId × Value → H} {W : World} {base : Nat} {sp : Nat → Bool} {held : Bool} {fuel : Nat} {cs : List Value} {x : DataW H × List MemPlace}
    (hlen : cs.length = 3) (hf : DataW.trod enc Tryd.prog W base sp held fuel 23 cs = some x) :
    ∃ (k n : Int) (s : ByteArray), cs = [.int .i64 k, .int .i64 n, .string s] ∧ (Lit.int .i64 n).wf = true := by
  obtain ⟨c0, c1, c2, rfl⟩ : ∃ c0 c1 c2, cs = [c0, c1, c2] := by
    match cs, hlen with
    | [c0, c1, c2], _ => exact ⟨c0, c1, c2, rfl⟩
  obtain ⟨y0, y1, y2, m, hx, _, t0, t1, t2⟩ := trod_struct3 Tryd.underlying23 hf
  obtain ⟨k, e0, f0, g0⟩ := DataW.trod_int Tryd.underlying3 t0
  obtain ⟨n, e1, f1, g1⟩ := DataW.trod_int Tryd.underlying3 t1
  obtain ⟨s, e2, f2, g2⟩ := DataW.trod_string Tryd.underlying9 t2
  simp [cells3, cells9] at e0 e1 e2
  subst e0 e1 e2
  exact ⟨k, n, s, rfl, g1⟩

theorem open_vals {H : Type} {enc : TypeId × Value → H} {W : World} {base b0 : Nat} {held : Bool} {r : Reach} {v : Value} {d : DataW H} {ps : List MemPlace}
    (hval : Value.okWide Tryd.prog W r b0 35 v) (hd : DataW.Trod enc Tryd.prog W base (fun _ => true) held 35 v d ps) :
    v = .slice none 0 0 ∨ ∃ (a : Addr) (L cap : Nat) (K N : Nat → Int) (S : Nat → ByteArray) (elems spare : List (DataW H)), v = .slice (some a) L cap ∧ ValsA W a L K N S ∧ d = .slice elems spare ∧ elems.length = L := by
  obtain ⟨a0, l0, c0, rfl⟩ := okWide_slice Tryd.underlying35 hval
  obtain ⟨fuel, hf⟩ := hd
  rcases open_slice Tryd.underlying35 hf with ⟨h0, _⟩ | ⟨a, len, cap, m, n, D, Pl, h0, hb, hl, hm, hmm, hx, he⟩
  · left
    simpa [Value.cells] using h0
  · right
    simp only [if_true] at hmm
    subst hmm
    have each : ∀ i, i < m → ∃ q : Int × Int × ByteArray, W.cell? (a.add (i * 3)) = some (.int .i64 q.1) ∧ W.cell? (a.add (i * 3 + 1)) = some (.int .i64 q.2.1) ∧ W.cell? (a.add (i * 3 + 2)) = some (.string q.2.2) ∧ (Lit.int .i64 q.2.1).wf = true := by
      intro i hi
      obtain ⟨cs', h1, h2⟩ := he i hi
      rw [cells23] at h1
      obtain ⟨_, hlen, hcell⟩ := World.cells?_some h1
      obtain ⟨k, nn, s, rfl, hw⟩ := elem_val hlen h2
      refine ⟨(k, nn, s), ?_, ?_, ?_, hw⟩
      · have := hcell 0 (by omega)
        rw [Addr.add_add] at this
        exact this
      · have := hcell 1 (by omega)
        rw [Addr.add_add] at this
        exact this
      · have := hcell 2 (by omega)
        rw [Addr.add_add] at this
        exact this
    obtain ⟨Q, hQ⟩ : ∃ Q : Nat → Int × Int × ByteArray, ∀ i, i < m → W.cell? (a.add (i * 3)) = some (.int .i64 (Q i).1) ∧ W.cell? (a.add (i * 3 + 1)) = some (.int .i64 (Q i).2.1) ∧ W.cell? (a.add (i * 3 + 2)) = some (.string (Q i).2.2) ∧ (Lit.int .i64 (Q i).2.1).wf = true :=
      ⟨fun i => if h : i < m then (each i h).choose else (0, 0, ⟨#[]⟩), fun i hi => by
        simp only [dif_pos hi]
        exact (each i hi).choose_spec⟩
    have hv : (Value.slice a0 l0 c0) = .slice (some a) len m := by simpa [Value.cells] using h0
    refine ⟨a, len, m, fun i => (Q i).1, fun i => (Q i).2.1, fun i => (Q i).2.2, _, _, hv, ⟨fun i hi => (hQ i (by omega)).1, fun i hi => (hQ i (by omega)).2.1, fun i hi => (hQ i (by omega)).2.2.1,
      fun i hi => (bounds_i64 (hQ i (by omega)).2.2.2).1, fun i hi => (bounds_i64 (hQ i (by omega)).2.2.2).2, fun h0 => ?_⟩, (Prod.mk.inj hx).1, by simp⟩
    have := block_lt_of_cell (hQ 0 (by omega)).1
    rw [add_block] at this
    exact this

set_option maxRecDepth 20000 in
set_option maxHeartbeats 600000 in
theorem kinds_nil (q : Int) (w : World) (htab : Tab w) :
    Calls Tryd.prog 4 #[.slice none 0 0, .int .i64 q] w fun e w' => e = .returned (.bool true) ∧ Below w.heap.size w w' := by
  obtain ⟨i0, hi, hz0, hz1, hz2⟩ := info_parts info23
  have happ := run_append_owned_none (P := Tryd.prog) (w.alloc (.cells #[] 23)) w.heap.size 35 35 23 i0 3 Tryd.underlying35 hi
    (.slice (some ⟨w.heap.size, 0, none⟩) 0 0) 0 [] (World.ownsRow_made w #[] 0 (Nat.le_refl _) (Nat.zero_le _) rfl)
  have T := try_none (some ⟨w.heap.size, 0, none⟩) 0 q (w.alloc (.cells #[] 23))
  have hb1 : Below w.heap.size w (w.alloc (.cells #[] 23)) := b1 w _
  have HT : Hid _ := htab
  have HP : Hid _ := happ
  clear htab happ hi hz0 hz1 hz2
  go_enter Tryd.func4, Tryd.ntmps4
  go_wp2_with (at_builtin; refine wp_app rfl _ _ 35 rfl 35 rfl _ _ rfl rfl HP.out ?_)
  refine T.mono ?_
  rintro e w2 ⟨rfl, hb2⟩
  have B2 : Below w.heap.size w w2 := bthen hb1 hb1.size hb2
  clear HP T hb1 hb2
  go_wp2_with fail
  refine (fixed_any _ (tab_keep HT.out B2)).mono ?_
  rintro e w3 ⟨rfl, hb3⟩
  have B3 : Below w.heap.size w w3 := bthen B2 B2.size hb3
  clear hb3 B2 HT
  go_wp2_with fail
  refine wp_loop_rounds 1 ?_
  rw [rounds_succ]
  go_wp2
  go_ret
  exact ⟨rfl, B3⟩

end Go.Proofs.YtimmoecjfkacpaaDoor

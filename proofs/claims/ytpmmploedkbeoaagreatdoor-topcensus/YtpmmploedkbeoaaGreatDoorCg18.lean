/- Make, asked as an operation. -/
import Derived.Test.YtpmmploedkbeoaaGreatDoorCg17
namespace Go.Proofs.YtpmmploedkbeoaaGreatDoor
open Go.RowKit

/-- What Make comes to. -/
structure MkP (No : Nat → Prop) (w : World) (M S hb c : Nat) (e : Ending) (w' : World) : Prop where
  ex : ∃ x l' c', e = .returned (rp (.slice x l' c') 0) ∧ Rq w' w.heap.size (.slice x l' c') [(4, 1, ⟨#[]⟩)] ∧ ∃ t s No2, Ini t s ∧ Mt No2 w' M S hb c t s ∧ (∀ g, No g → No2 g) ∧ ∀ g off, x = some ⟨g, off, none⟩ → No2 g
  kp : Keep (fun g => No g ∧ g ≠ M) w w'
set_option maxRecDepth 20000 in
set_option maxHeartbeats 4000000 in
theorem ask_make {No : Nat → Prop} {w : World} {M S hb c : Nat} (h : M0 No w M S hb c) (hc : c ≤ 1000) (nm : ByteArray) :
    Calls Tryz.prog 21 #[.pointer (some ⟨M, 0, none⟩), .agg #[.int .i64 7, .string nm, .slice none 0 0, .int .i64 0, .int .i64 0]] w (MkP No w M S hb (c + 3)) := by
  obtain ⟨B0, O0, R0⟩ := entry2 w 7 nm (.slice none 0 0) 0 0
  have hM : M < w.heap.size := h.mc.lt
  obtain ⟨W0, hW0⟩ : ∃ W0, (w.alloc (.cells #[.int .i64 7, .string nm, .slice none 0 0, .int .i64 0, .int .i64 0] 48)).alloc (.cells #[.slice none 0 0, .int .i64 0, .int .i64 0, .slice none 0 0, .slice none 0 0, .int .i64 0, .int .i64 0, .int .i64 0, .int .i64 0, .int .i64 0, .int .i64 0] 35) = W0 := ⟨_, rfl⟩
  rw [hW0] at B0 O0 R0
  obtain ⟨vb, hp⟩ := h.hp
  have h2 : M0 (fun g => No g ∨ (w.heap.size ≤ g ∧ g < W0.heap.size)) W0 M S hb c := ⟨h.mc.below B0, ⟨vb, Hp.news hp B0⟩, .inl h.nM⟩
  have CC := make_any h2 hc
  have o0 := O0.c0
  have o1 := O0.c1
  have o2 := O0.c2
  have o3 := O0.c3
  have o4 := O0.c4
  have HB0 : Hid (Below w.heap.size w W0 ∧ M < w.heap.size ∧ No M ∧ ∀ g, No g → g < w.heap.size) := ⟨B0, hM, h.nM, fun g q => hp.nos g q⟩
  have HR0 : Hid (R11 W0 (w.heap.size + 1) (.slice none 0 0) 0) := R0
  clear O0 R0 B0 h h2 hM hp
  go_enter Tryz.func21, Tryz.ntmps21
  go_wp2_with fail
  refine CC.mono ?_; rintro e w1 ⟨rfl, ⟨t, s, No2, hi, mt, hn⟩, k1⟩
  have b2 := b1 w1 (.cells #[.int .i64 4, .int .i64 1, .string ⟨#[]⟩] 37)
  have X2 : Bx (w1.alloc (.cells #[.int .i64 4, .int .i64 1, .string ⟨#[]⟩] 37)) w1.heap.size (4, 1, ⟨#[]⟩) := Bx.made w1 (4, 1, ⟨#[]⟩)
  obtain ⟨w2, hw2⟩ : ∃ w2, w1.alloc (.cells #[.int .i64 4, .int .i64 1, .string ⟨#[]⟩] 37) = w2 := ⟨_, rfl⟩
  rw [hw2] at b2 X2
  have H1 : Hid (Ini t s ∧ Mt No2 w2 M S hb (c + 3) t s ∧ (∀ g, (No g ∨ (w.heap.size ≤ g ∧ g < W0.heap.size)) → No2 g) ∧ Keep (fun g => (No g ∨ (w.heap.size ≤ g ∧ g < W0.heap.size)) ∧ g ≠ M) W0 w2 ∧ R11 w2 (w.heap.size + 1) (.slice none 0 0) 0) := ⟨hi, mt.below b2, hn, k1.bel b2, (HR0.out.kept k1 ⟨.inr ⟨by omega, HR0.out.lt⟩, by have := HB0.out.2.1; omega⟩).below b2⟩
  clear b2 X2
  subst hw2
  have C35 := answer_ok (some ⟨w1.heap.size + 1, 0, none⟩) 1 1 ((w1.alloc (.cells #[.int .i64 4, .int .i64 1, .string ⟨#[]⟩] 37)).alloc (.cells #[.int .i64 4, .int .i64 1, .string ⟨#[]⟩] 37))
  clear CC hi mt hn k1
  go_wp2_with fail
  refine C35.mono ?_; rintro e U ⟨rfl, hu⟩
  have sz : (w1.alloc (.cells #[.int .i64 4, .int .i64 1, .string ⟨#[]⟩] 37)).heap.size = w1.heap.size + 1 := by simp
  obtain ⟨w2, hw2⟩ : ∃ w2, w1.alloc (.cells #[.int .i64 4, .int .i64 1, .string ⟨#[]⟩] 37) = w2 := ⟨_, rfl⟩
  rw [hw2] at H1 hu sz
  have hk := bthen (b1 w2 (.cells #[.int .i64 4, .int .i64 1, .string ⟨#[]⟩] 37)) (b1 w2 (.cells #[.int .i64 4, .int .i64 1, .string ⟨#[]⟩] 37)).size hu
  have rU := H1.out.2.2.2.2.below hk
  have qU := (rq1 w2 (4, 1, ⟨#[]⟩)).below hu
  rw [sz] at qU
  have rS := rU.set (.slice (some ⟨w1.heap.size + 1, 0, none⟩) 1 1) 0
  have hlt := H1.out.2.2.2.2.lt
  have qS := (rq_set11 (N := w.heap.size + 1) qU (by omega) (.slice (some ⟨w1.heap.size + 1, 0, none⟩) 1 1) 0).low (show w.heap.size ≤ w1.heap.size + 1 by omega)
  have kU : Keep (fun g => No g ∧ g ≠ M) w U := ((Keep.of HB0.out.1).trans (H1.out.2.2.2.1.sub (fun g q => ⟨.inl q.1, q.2⟩))).bel hk
  have kS := keep_set11 (N := w.heap.size + 1) kU (fun z => by have := HB0.out.2.2.2 _ z.1; omega) (.slice (some ⟨w1.heap.size + 1, 0, none⟩) 1 1) 0
  have mS : Mt (fun g => No2 g ∨ (w2.heap.size ≤ g ∧ g < U.heap.size)) (set11 U (w.heap.size + 1) (.slice (some ⟨w1.heap.size + 1, 0, none⟩) 1 1) 0) M S hb (c + 3) t s := by
    have m2 := H1.out.2.1.news hk
    have hN2 : No2 (w.heap.size + 1) := H1.out.2.2.1 _ (.inr ⟨by omega, HR0.out.lt⟩)
    exact m2.put11 (.inl hN2) (by have := HB0.out.2.1; omega) (m2.apart rU.c0 (fun _ q => by cases q)) _ _
  have hb9 : w2.heap.size < U.heap.size := Nat.lt_of_lt_of_le (by simp) hu.size
  obtain ⟨U1, U2, U3, U4, U5, U6, U7, U8, U9, U10, U11, ⟨f0, n0⟩, ⟨s0, f1, n1⟩, ⟨s1, f2, n2⟩, ⟨s2, f3, n3⟩, ⟨s3, f4, n4⟩, ⟨s4, f5, n5⟩, ⟨s5, f6, n6⟩, ⟨s6, f7, n7⟩, ⟨s7, f8, n8⟩, ⟨s8, f9, n9⟩, ⟨s9, f10, n10⟩, s10, se⟩ := rU.steps (.slice (some ⟨w1.heap.size + 1, 0, none⟩) 1 1) 0
  have HE : Hid (R11 U11 (w.heap.size + 1) (.slice (some ⟨w1.heap.size + 1, 0, none⟩) 1 1) 0 ∧ Rq U11 w.heap.size (.slice (some ⟨w1.heap.size + 1, 0, none⟩) 1 1) [(4, 1, ⟨#[]⟩)] ∧ (∃ t s No3, Ini t s ∧ Mt No3 U11 M S hb (c + 3) t s ∧ (∀ g, No g → No3 g) ∧ ∀ g off, (some (⟨w1.heap.size + 1, 0, none⟩ : Addr)) = some ⟨g, off, none⟩ → No3 g) ∧ Keep (fun g => No g ∧ g ≠ M) w U11) := by
    rw [se] at rS qS kS mS
    exact ⟨rS, qS, ⟨t, s, _, H1.out.1, mS, fun g z => .inl (H1.out.2.2.1 g (.inl z)), fun g off q => by cases q; exact .inr ⟨by omega, by omega⟩⟩, kS⟩
  clear hb9 C35 sz hw2 hu hk rU qU rS qS kU kS mS se hlt
  go_wp2_with fail
  have r0 := HE.out.1.c0
  have r1 := HE.out.1.c1
  have r2 := HE.out.1.c2
  have r3 := HE.out.1.c3
  have r4 := HE.out.1.c4
  have r5 := HE.out.1.c5
  have r6 := HE.out.1.c6
  have r7 := HE.out.1.c7
  have r8 := HE.out.1.c8
  have r9 := HE.out.1.c9
  have r10 := HE.out.1.c10
  exact bodyPost_ret (v := rp (.slice (some ⟨w1.heap.size + 1, 0, none⟩) 1 1) 0) (by simp [results, Tryz.results21, go_sem, r0, r1, r2, r3, r4, r5, r6, r7, r8, r9, r10]) rfl ⟨⟨_, _, _, rfl, HE.out.2.1, HE.out.2.2.1⟩, HE.out.2.2.2⟩
set_option maxRecDepth 20000 in
set_option maxHeartbeats 4000000 in
theorem do_make {No : Nat → Prop} {w : World} {M S hb c : Nat} (h : M0 No w M S hb c) (hc : c ≤ 1000) (nm : ByteArray) :
    Calls Tryz.prog 14 #[.pointer (some ⟨M, 0, none⟩), .agg #[.int .i64 7, .string nm, .slice none 0 0, .int .i64 0, .int .i64 0]] w (MkP No w M S hb (c + 3)) := by
  obtain ⟨B0, O0, R0⟩ := entry2 w 7 nm (.slice none 0 0) 0 0
  have hM : M < w.heap.size := h.mc.lt
  obtain ⟨W0, hW0⟩ : ∃ W0, (w.alloc (.cells #[.int .i64 7, .string nm, .slice none 0 0, .int .i64 0, .int .i64 0] 48)).alloc (.cells #[.slice none 0 0, .int .i64 0, .int .i64 0, .slice none 0 0, .slice none 0 0, .int .i64 0, .int .i64 0, .int .i64 0, .int .i64 0, .int .i64 0, .int .i64 0] 35) = W0 := ⟨_, rfl⟩
  rw [hW0] at B0 O0 R0
  obtain ⟨vb, hp⟩ := h.hp
  have h2 : M0 (fun g => No g ∨ (w.heap.size ≤ g ∧ g < W0.heap.size)) W0 M S hb c := ⟨h.mc.below B0, ⟨vb, Hp.news hp B0⟩, .inl h.nM⟩
  have CC := ask_make h2 hc nm
  have o0 := O0.c0
  have o1 := O0.c1
  have o2 := O0.c2
  have o3 := O0.c3
  have o4 := O0.c4
  have HB0 : Hid (Below w.heap.size w W0 ∧ M < w.heap.size ∧ No M ∧ ∀ g, No g → g < w.heap.size) := ⟨B0, hM, h.nM, fun g q => hp.nos g q⟩
  have HR0 : Hid (R11 W0 (w.heap.size + 1) (.slice none 0 0) 0) := R0
  clear O0 R0 B0 h h2 hM hp
  go_enter Tryz.func14, Tryz.ntmps14
  go_wp2_with fail
  refine CC.mono ?_; rintro e U ⟨⟨x, n, l', rfl, qv, t, s, No2, hi, mt, hn, hx⟩, k1⟩
  have hlt := HR0.out.lt
  have rU := HR0.out.kept k1 ⟨.inr ⟨by omega, hlt⟩, by have := HB0.out.2.1; omega⟩
  have rS := rU.set (.slice x n l') 0
  have qS := (rq_set11 (N := w.heap.size + 1) qv hlt (.slice x n l') 0).low (show w.heap.size ≤ W0.heap.size by omega)
  have kU : Keep (fun g => No g ∧ g ≠ M) w U := (Keep.of HB0.out.1).trans (k1.sub (fun g q => ⟨.inl q.1, q.2⟩))
  have kS := keep_set11 (N := w.heap.size + 1) kU (fun z => by have := HB0.out.2.2.2 _ z.1; omega) (.slice x n l') 0
  have mS : Mt No2 (set11 U (w.heap.size + 1) (.slice x n l') 0) M S hb (c + 3) t s := mt.put11 (hn _ (.inr ⟨by omega, hlt⟩)) (by have := HB0.out.2.1; omega) (mt.apart rU.c0 (fun _ q => by cases q)) _ _
  obtain ⟨U1, U2, U3, U4, U5, U6, U7, U8, U9, U10, U11, ⟨f0, n0⟩, ⟨s0, f1, n1⟩, ⟨s1, f2, n2⟩, ⟨s2, f3, n3⟩, ⟨s3, f4, n4⟩, ⟨s4, f5, n5⟩, ⟨s5, f6, n6⟩, ⟨s6, f7, n7⟩, ⟨s7, f8, n8⟩, ⟨s8, f9, n9⟩, ⟨s9, f10, n10⟩, s10, se⟩ := rU.steps (.slice x n l') 0
  have HE : Hid (R11 U11 (w.heap.size + 1) (.slice x n l') 0 ∧ Rq U11 w.heap.size (.slice x n l') [(4, 1, ⟨#[]⟩)] ∧ (∃ t s No3, Ini t s ∧ Mt No3 U11 M S hb (c + 3) t s ∧ (∀ g, No g → No3 g) ∧ ∀ g off, x = some ⟨g, off, none⟩ → No3 g) ∧ Keep (fun g => No g ∧ g ≠ M) w U11) := by
    rw [se] at rS qS kS mS
    exact ⟨rS, qS, ⟨t, s, _, hi, mS, fun g z => hn g (.inl z), hx⟩, kS⟩
  clear CC qv hi mt hn hx k1 hlt rU rS qS kU kS mS se
  go_wp2_with fail
  have r0 := HE.out.1.c0
  have r1 := HE.out.1.c1
  have r2 := HE.out.1.c2
  have r3 := HE.out.1.c3
  have r4 := HE.out.1.c4
  have r5 := HE.out.1.c5
  have r6 := HE.out.1.c6
  have r7 := HE.out.1.c7
  have r8 := HE.out.1.c8
  have r9 := HE.out.1.c9
  have r10 := HE.out.1.c10
  exact bodyPost_ret (v := rp (.slice x n l') 0) (by simp [results, Tryz.results14, go_sem, r0, r1, r2, r3, r4, r5, r6, r7, r8, r9, r10]) rfl ⟨⟨_, _, _, rfl, HE.out.2.1, HE.out.2.2.1⟩, HE.out.2.2.2⟩
end Go.Proofs.YtpmmploedkbeoaaGreatDoor

/- A new machine; operations that are known. -/
namespace Go.Proofs.YtpmmploedkbeoaaGreatDoor
open Go.RowKit

set_option maxRecDepth 20000 in
set_option maxHeartbeats 4000000 in
theorem mnew_any (w : World) : Calls Tryz.prog 11 #[.int .i64 0, .int .i64 400000] w fun e w' => ∃ M S hb, e = .returned (.tuple #[.pointer (some ⟨M, 0, none⟩), .int .i64 0]) ∧ M0 (fun g => g < w.heap.size ∨ g = M) w' M S hb 0 ∧ Below w.heap.size w w' ∧ w.heap.size ≤ M := by
  have C1 := H.new_walk w 400000 (by omega) (by omega)
  have hp := new_hp w 400000 (fun g => g < w.heap.size) (fun g q => q)
  have B1 := b2 w (.map #[] 0) (.cells #[.int .i64 400000, .int .i64 0, .int .i64 0, .slice none 0 0, .map (some w.heap.size)] 71)
  obtain ⟨W1, hW1⟩ : ∃ W1, (w.alloc (.map #[] 0)).alloc (.cells #[.int .i64 400000, .int .i64 0, .int .i64 0, .slice none 0 0, .map (some w.heap.size)] 71) = W1 := ⟨_, rfl⟩
  rw [hW1] at hp B1 C1
  have b5 := b1 W1 (.cells #[.int .i64 0, .pointer (some ⟨w.heap.size + 1, 0, none⟩), .slice none 0 0, .slice none 0 0, .slice none 0 0, .slice none 0 0, .slice none 0 0, .int .i64 0, .slice none 0 0, .int .i64 0, .int .i64 0] 62)
  have hc := (MapKept.heap_alloc W1 (.cells #[.int .i64 0, .pointer (some ⟨w.heap.size + 1, 0, none⟩), .slice none 0 0, .slice none 0 0, .slice none 0 0, .slice none 0 0, .slice none 0 0, .int .i64 0, .slice none 0 0, .int .i64 0, .int .i64 0] 62)).1
  have HE : Hid (M0 (fun g => g < w.heap.size ∨ g = W1.heap.size) (W1.alloc (.cells #[.int .i64 0, .pointer (some ⟨w.heap.size + 1, 0, none⟩), .slice none 0 0, .slice none 0 0, .slice none 0 0, .slice none 0 0, .slice none 0 0, .int .i64 0, .slice none 0 0, .int .i64 0, .int .i64 0] 62)) W1.heap.size (w.heap.size + 1) w.heap.size 0 ∧ Below w.heap.size w (W1.alloc (.cells #[.int .i64 0, .pointer (some ⟨w.heap.size + 1, 0, none⟩), .slice none 0 0, .slice none 0 0, .slice none 0 0, .slice none 0 0, .slice none 0 0, .int .i64 0, .slice none 0 0, .int .i64 0, .int .i64 0] 62)) ∧ w.heap.size ≤ W1.heap.size) :=
    ⟨⟨⟨cell_of_row hc 0, cell_of_row hc 1, cell_of_row hc 2, cell_of_row hc 3, fun j => new_free W1 _ _ j, by simp⟩, ⟨_, Hp.sub (Hp.news hp b5) (fun g q => q.elim .inl (fun e => .inr ⟨by omega, by rw [e]; simp⟩))⟩, .inr rfl⟩, bthen B1 B1.size b5, B1.size⟩
  clear hp B1 hW1 b5 hc
  go_enter Tryz.func11, Tryz.ntmps11
  go_wp2_with fail
  refine C1.mono ?_; rintro e w1 ⟨rfl, hw1⟩; rw [hw1]; clear hw1 C1
  go_wp2_with fail
  go_ret2
  exact ⟨_, _, _, rfl, HE.out⟩
end Go.Proofs.YtpmmploedkbeoaaGreatDoor

/- A list of operations; none is unknown. -/
namespace Go.Proofs.YtpmmploedkbeoaaGreatDoor
open Go.RowKit

/-- An operation, its values as a slice. -/
structure Opv where
  k : Int
  nm : ByteArray
  a : Option Addr
  L : Nat
  cp : Nat
  p : Int
  q : Int
/-- A list of operations, to be read. -/
structure Ol (w : World) (ad : Option Addr) (n : Nat) (O : Nat → Opv) : Prop where
  at' : ∀ j, j < n → ∃ lb off, ad = some ⟨lb, off, none⟩ ∧ lb < w.heap.size ∧ w.cell? ⟨lb, off + j * 5, none⟩ = some (.int .i64 (O j).k) ∧ w.cell? ⟨lb, off + j * 5 + 1, none⟩ = some (.string (O j).nm) ∧ w.cell? ⟨lb, off + j * 5 + 2, none⟩ = some (.slice (O j).a (O j).L (O j).cp) ∧ w.cell? ⟨lb, off + j * 5 + 3, none⟩ = some (.int .i64 (O j).p) ∧ w.cell? ⟨lb, off + j * 5 + 4, none⟩ = some (.int .i64 (O j).q)
theorem Ol.block {w w' : World} {ad : Option Addr} {n : Nat} {O : Nat → Opv} (h : Ol w ad n O) (hb : ∀ lb off, ad = some ⟨lb, off, none⟩ → lb < w.heap.size → w'.heap[lb]? = w.heap[lb]?) (hs : w.heap.size ≤ w'.heap.size) : Ol w' ad n O := ⟨fun j hj => by
  obtain ⟨lb, off, e, hl, c0, c1, c2, c3, c4⟩ := h.at' j hj
  have q := hb lb off e hl
  exact ⟨lb, off, e, Nat.lt_of_lt_of_le hl hs, by rw [World.cell?_of_block (w := w) q]; exact c0, by rw [World.cell?_of_block (w := w) q]; exact c1, by rw [World.cell?_of_block (w := w) q]; exact c2, by rw [World.cell?_of_block (w := w) q]; exact c3, by rw [World.cell?_of_block (w := w) q]; exact c4⟩⟩
theorem Ol.below {w w' : World} {ad : Option Addr} {n : Nat} {O : Nat → Opv} (h : Ol w ad n O) (k : Below w.heap.size w w') : Ol w' ad n O := h.block (fun lb _ _ hl => k.block lb hl) k.size
theorem Ol.keep {No : Nat → Prop} {w w' : World} {ad : Option Addr} {n : Nat} {O : Nat → Opv} (h : Ol w ad n O) (k : Keep No w w') (hn : ∀ g off, ad = some ⟨g, off, none⟩ → No g) : Ol w' ad n O := h.block (fun lb off e hl => k.block lb hl (hn lb off e)) k.size
theorem enters13 : ∀ args w, (callFunc 13 args).run Tryz.prog w = .ok (.enter 13 args) w := enters_of Tryz.func13 (by kernel_rfl) rfl
set_option maxRecDepth 20000 in
set_option maxHeartbeats 4000000 in
theorem oindex_any {w : World} {ad : Option Addr} {n c : Nat} {O : Nat → Opv} (h : Ol w ad n O) (hn : n ≤ 1000) (hk : ∀ j, j < n → 1 ≤ (O j).k ∧ (O j).k ≤ 14) :
    Calls Tryz.prog 18 #[.slice ad n c, .func (.func 13) #[] #[]] w fun e w' => e = .returned (.int .i64 (-1)) ∧ Below w.heap.size w w' := by
  have HO : Hid (Ol w ad n O) := h
  have HK : Hid (∀ j, j < n → 1 ≤ (O j).k ∧ (O j).k ≤ 14) := hk
  have e13 := enters13
  clear h hk
  go_enter Tryz.func18, Tryz.ntmps18
  go_wp2_with fail
  go_loopw [8] (fun iw wr => ∃ i : Nat, iw = .int .i64 (i : Nat) ∧ i ≤ n ∧ Hid (Below w.heap.size w wr)) (fun iw _ => n - (intOf iw).toNat)
  case atStart => exact ⟨0, rfl, by omega, Below.refl _ _⟩
  case round =>
    obtain ⟨i, rfl, hi, HR⟩ := hrel
    by_cases hlt : i < n
    · have hlt' : (i : Int) < (n : Int) := by omega
      obtain ⟨lb, off, rfl, hl, u0, u1, u2, u3, u4⟩ := (HO.out.below HR.out).at' i hlt
      have C := unknown_any (O i).k (HK.out i hlt).1 (HK.out i hlt).2 (O i).nm (.slice (O i).a (O i).L (O i).cp) (O i).p (O i).q ⟨_, _, _, rfl⟩ wr
      have wi : IntKind.i64.wrap ((i : Int) + 1) = (i : Int) + 1 := by rw [IntKind.wrap_i64]; omega
      generalize O i = y at *
      clear hl
      go_wp2_with (go_at_fn 13; refine C.mono ?_; rintro e W4 ⟨rfl, hb4⟩; have HB4 : Hid (Below w.heap.size w W4) := bthen HR.out HR.out.size hb4; clear hb4)
      go_round
      case rel => exact ⟨i + 1, by go_num, by omega, HB4.out⟩
      case measure => simp [intOf]; omega
    · have e0 : i = n := by omega
      subst e0
      have hlt' : ¬ (i : Int) < (i : Int) := by omega
      go_wp2_with fail
      go_ret
      exact ⟨rfl, HR.out⟩
set_option maxRecDepth 20000 in
set_option maxHeartbeats 4000000 in
theorem ocontains_any {w : World} {ad : Option Addr} {n c : Nat} {O : Nat → Opv} (h : Ol w ad n O) (hn : n ≤ 1000) (hk : ∀ j, j < n → 1 ≤ (O j).k ∧ (O j).k ≤ 14) :
    Calls Tryz.prog 12 #[.slice ad n c, .func (.func 13) #[] #[]] w fun e w' => e = .returned (.bool false) ∧ Below w.heap.size w w' := by
  have C := oindex_any (c := c) h hn hk
  clear h hk
  go_enter Tryz.func12, Tryz.ntmps12
  go_wp2_with fail
  refine C.mono ?_; rintro e w1 ⟨rfl, hb⟩
  have HB1 : Hid (Below w.heap.size w w1) := hb
  clear C hb
  go_wp2
  go_ret
  exact ⟨by simp, HB1.out⟩
end Go.Proofs.YtpmmploedkbeoaaGreatDoor

/- The walk of TablibTexts. -/
import Derived.Test.YtckgoedlgecokaaGreatDoorCg31
import Derived.Deep.DeepCutAuto
namespace Go.Proofs.YtckgoedlgecokaaGreatDoor
open Go.RowKit
theorem pos1_facts (k : Int) (n : Nat) (h1 : n ≤ 1000) : ∃ U r : Nat, IntKind.u64.wrap k = (U : Int) ∧ IntKind.u64.wrap ((n : Int) + 1) = (n : Int) + 1 ∧ (U : Int).tmod ((n : Int) + 1) = (r : Int) ∧ IntKind.u64.wrap (r : Int) = (r : Int) ∧ IntKind.i64.wrap (r : Int) = (r : Int) ∧ wrap64 (r : Int) = (r : Int) ∧ IntKind.i64.wrap (1 + (r : Int)) = (r : Int) + 1 ∧ r ≤ n := by
  obtain ⟨U, r, a, b, c, d, e, f, g⟩ := pos_facts k (n + 1) (by omega) (by omega)
  rw [show ((n + 1 : Nat) : Int) = (n : Int) + 1 by omega] at b c
  exact ⟨U, r, a, b, c, d, e, f, (by rw [IntKind.wrap_i64]; omega), by omega⟩
/-- The texts that come in, as values. -/
def wdl (G : Nat → ByteArray) : Nat → List V
  | 0 => []
  | k + 1 => if (G k).size ≤ 100 then wdl G k ++ [(3, 0, G k)] else wdl G k
/-- A text that is not too long, as a value. -/
def Tv (v : V) : Prop := v.1 = 3 ∧ v.2.1 = 0 ∧ v.2.2.size ≤ 100
theorem wdl_len (G : Nat → ByteArray) : ∀ k, (wdl G k).length ≤ k
  | 0 => Nat.le_refl _
  | k + 1 => by
    have := wdl_len G k
    unfold wdl
    split
    · rw [List.length_append, List.length_singleton]; omega
    · omega
theorem wdl_tv (G : Nat → ByteArray) : ∀ k, ∀ v ∈ wdl G k, Tv v
  | 0, v, hv => by cases hv
  | k + 1, v, hv => by
    unfold wdl at hv
    split at hv
    · rcases List.mem_append.1 hv with h | h
      · exact wdl_tv G k v h
      · rw [List.mem_singleton.1 h]; exact ⟨rfl, rfl, by assumption⟩
    · exact wdl_tv G k v hv
theorem rwq_mem (F : Nat → V) : ∀ k, ∀ v ∈ rwq F k, ∃ i, i < k ∧ v = F i
  | 0, v, hv => by cases hv
  | k + 1, v, hv => by
    unfold rwq at hv
    split at hv
    · rcases List.mem_append.1 hv with h | h
      · obtain ⟨i, h1, h2⟩ := rwq_mem F k v h; exact ⟨i, by omega, h2⟩
      · exact ⟨k, by omega, List.mem_singleton.1 h⟩
    · obtain ⟨i, h1, h2⟩ := rwq_mem F k v hv; exact ⟨i, by omega, h2⟩
theorem rwq_le (F : Nat → V) : ∀ k, (rwq F k).length ≤ k
  | 0 => Nat.le_refl _
  | k + 1 => by
    have := rwq_le F k
    unfold rwq
    split
    · rw [List.length_append, List.length_singleton]; omega
    · omega
set_option maxRecDepth 20000 in
set_option maxHeartbeats 2000000 in
theorem concat_none (T : Nat) (sep : ByteArray) (i j fuel : Int) (hij : j < i) (hf : 0 ≤ fuel) (w : World) : Calls Tryz.prog 18 #[tp T, .string sep, .int .i64 i, .int .i64 j, .int .i64 fuel] w fun e w' => e = .returned (.tuple #[.string ⟨#[]⟩, .int .i64 0, .int .i64 0]) ∧ w' = w := by
  have f0 : ¬ fuel < 0 := by omega
  go_enter Tryz.func18, Tryz.ntmps18
  go_wp2
  exact bodyPost_ret (v := .tuple #[.string ⟨#[]⟩, .int .i64 0, .int .i64 0]) (by simp [results, Tryz.results18, go_sem]) rfl ⟨rfl, rfl⟩
/-- A list that grows, and nothing else has changed. -/
structure LW (w : World) (v : Value) (m : List V) (wx : World) : Prop where
  lv : Lv wx w.heap.size v m.length fun i => m.getD i nil
  bl : Below w.heap.size w wx
theorem LW.below {w wx wy : World} {v : Value} {m : List V} (h : LW w v m wx) (k : Below wx.heap.size wx wy) : LW w v m wy := ⟨h.lv.below k, h.bl.trans (k.mono h.bl.size)⟩
theorem LW.app {w wx : World} {v : Value} {m : List V} (h : LW w v m wx) (x : V) (hm : m.length ≤ 300) :
    ∃ a q w', (Builtin.append_ #[22, 22] 22 #[v, .slice (some ⟨wx.heap.size, 0, none⟩) 1 1]).run Tryz.prog (wx.alloc (.cells #[.int .i64 x.1, .int .i64 x.2.1, .string x.2.2] 24)) = .ok (.slice a (m.length + 1) q) w' ∧ LW w (.slice a (m.length + 1) q) (m ++ [x]) w' := by
  have h5 := h.below (b1 wx (.cells #[.int .i64 x.1, .int .i64 x.2.1, .string x.2.2] 24))
  obtain ⟨a, q, w', hr, hl, hg, _⟩ := lv_apps h5.lv (sv_box (Bx.made wx x)) (by show m.length + 1 ≤ 1000; omega) h5.bl.size
  have hz := h5.bl.size
  exact ⟨a, q, w', hr, hl, h5.bl.trans ⟨hg.os, hg.tape, hg.output, hg.size, fun y hy => hg.block y (by omega) (fun e => by have := (h5.lv.own.lt y e.symm).1; omega)⟩⟩
/-- What is wanted when so many parts have come. -/
def wtL (tx : Nat → ByteArray) (sep : ByteArray) (m t : Nat) : List UInt8 := if t ≤ m then ctL tx sep t else ctL tx sep m ++ (tx m).data.toList
theorem ba_eq (s : ByteArray) (l : List UInt8) (h : s.data.toList = l) : s = ⟨l.toArray⟩ := by subst h; rfl
theorem ba_app (s t : ByteArray) : (s ++ t).data.toList = s.data.toList ++ t.data.toList := by simp
set_option maxRecDepth 20000 in
set_option maxHeartbeats 8000000 in
theorem texts_walk {w : World} {av : Option Addr} {cv L : Nat} {G : Nat → ByteArray} (hv : Sin w av L G) (_ : L ≤ 9223372036854775807) (sp0 : ByteArray) (xi xj : Int) :
    Calls Tryz.prog 4 #[.agg #[.slice av L cv, .string sp0, .int .i64 xi, .int .i64 xj]] w fun e w' => e = .returned (.bool true) ∧ Below w.heap.size w w' := by
  have B0 := b1 w (.cells #[.slice av L cv, .string sp0, .int .i64 xi, .int .i64 xj] 44)
  have c0 : (w.alloc (.cells #[.slice av L cv, .string sp0, .int .i64 xi, .int .i64 xj] 44)).heap[w.heap.size]? = some (.cells #[.slice av L cv, .string sp0, .int .i64 xi, .int .i64 xj] 44) := (MapKept.heap_alloc w _).1
  obtain ⟨W0, hW0⟩ : ∃ W0, w.alloc (.cells #[.slice av L cv, .string sp0, .int .i64 xi, .int .i64 xj] 44) = W0 := ⟨_, rfl⟩
  rw [hW0] at B0 c0
  have hz0 : w.heap.size < W0.heap.size := by rw [← hW0]; simp
  have CF := fixed_any W0
  have HV : Hid (Sin W0 av L G ∧ Below w.heap.size w W0) := ⟨hv.below B0, B0⟩
  have HC : Hid (∀ W, Below W0.heap.size W0 W → W.cell? ⟨w.heap.size, 0, none⟩ = some (.slice av L cv) ∧ W.cell? ⟨w.heap.size, 1, none⟩ = some (.string sp0) ∧ W.cell? ⟨w.heap.size, 2, none⟩ = some (.int .i64 xi) ∧ W.cell? ⟨w.heap.size, 3, none⟩ = some (.int .i64 xj)) := fun W b => ⟨(b.cell (p := ⟨w.heap.size, 0, none⟩) hz0).trans (cell_of_row c0 0), (b.cell (p := ⟨w.heap.size, 1, none⟩) hz0).trans (cell_of_row c0 1), (b.cell (p := ⟨w.heap.size, 2, none⟩) hz0).trans (cell_of_row c0 2), (b.cell (p := ⟨w.heap.size, 3, none⟩) hz0).trans (cell_of_row c0 3)⟩
  clear hv B0 c0 hz0
  go_enter Tryz.func4, Tryz.ntmps4
  go_wp2_with fail
  refine CF.mono ?_
  rintro e w1 ⟨rfl, b1⟩
  have HI : Hid (LW W0 (.slice none 0 0) [] w1.drew) := ⟨Lv.nil _ _ _, b1.drew⟩
  have c1 := (HC.out _ b1.drew).2.1
  have c2 := (HC.out _ b1.drew).2.2.1
  have c3 := (HC.out _ b1.drew).2.2.2
  have c0 := (HC.out _ b1.drew).1
  clear CF b1 HC
  go_wp2_with fail
  go_region
  clear c0 c1 c2 c3
  go_wp2
  go_loopw [7, 8] (fun sv iv wx => ∃ k n : Nat, ∃ a q, iv = .int .i64 (k : Nat) ∧ sv = .slice a n q ∧ k ≤ 40 ∧ n ≤ k ∧ Hid ((wdl G k).length = n ∧ LW W0 (.slice a n q) (wdl G k) wx)) (fun _ iv _ => 40 - (intOf iv).toNat)
  case atStart => exact ⟨0, 0, none, 0, rfl, rfl, by omega, Nat.le_refl _, rfl, HI.out⟩
  case round =>
    clear HI
    obtain ⟨k, n, a, q, rfl, rfl, hk, hnk, HI⟩ := hrel
    by_cases hlt : k < L ∧ k < 40
    · obtain ⟨k1, k2⟩ := hlt
      have q1 : (k : Int) < (L : Int) := by omega
      have q2 : (k : Int) < 40 := by omega
      have wk : IntKind.i64.wrap ((k : Int) + 1) = (k : Int) + 1 := by rw [IntKind.wrap_i64]; omega
      have hms : 40 - (k + 1) < 40 - k := by omega
      obtain ⟨pb, po, rfl, pl, pc⟩ := HV.out.1.at' k k1
      obtain ⟨g, hg⟩ : ∃ g, G k = g := ⟨_, rfl⟩
      have HGk : Hid (G k = g) := hg
      rw [hg] at pc
      have pr := (HI.out.2.bl.cell (p := ⟨pb, po + k, none⟩) pl).trans pc
      clear pl pc hg
      by_cases hsz : g.size ≤ 100
      · have s1 : (g.size : Int) ≤ 100 := by omega
        have CS := mkS g wr
        go_wp2_with fail
        refine CS.mono ?_
        rintro e w3 ⟨rfl, b3⟩
        obtain ⟨a4, q4, w4, hr4, L4⟩ := (HI.out.2.below b3).app (3, 0, g) (by rw [HI.out.1]; omega)
        rw [HI.out.1] at hr4 L4
        have HN : Hid ((wdl G (k + 1)).length = n + 1 ∧ LW W0 (.slice a4 (n + 1) q4) (wdl G (k + 1)) w4) := by
          have e : wdl G (k + 1) = wdl G k ++ [(3, 0, g)] := by rw [wdl, HGk.out, if_pos hsz]
          rw [e]
          exact ⟨by rw [List.length_append, HI.out.1]; rfl, L4⟩
        clear CS b3 L4 HI pr
        unfold vl
        go_wp2_with (at_builtin; refine wp_app rfl _ _ 22 rfl 22 rfl _ _ rfl rfl hr4 ?_)
        clear hr4
        go_roundw
        case rel => exact ⟨k + 1, n + 1, a4, q4, by go_num, rfl, by omega, by omega, HN⟩
        case measure => first | omega | (simp only [intOf]; omega) | (simp; omega)
      · have s1 : ¬ (g.size : Int) ≤ 100 := by omega
        have HN : Hid ((wdl G (k + 1)).length = n ∧ LW W0 (.slice a n q) (wdl G (k + 1)) wr) := by
          have e : wdl G (k + 1) = wdl G k := by rw [wdl, HGk.out, if_neg hsz]
          rw [e]
          exact HI.out
        clear HI
        go_wp2
        go_roundw
        case rel => exact ⟨k + 1, n, a, q, by go_num, rfl, by omega, by omega, HN⟩
        case measure => first | omega | (simp only [intOf]; omega) | (simp; omega)
    · by_cases k1 : k < L
      · have q1 : (k : Int) < (L : Int) := by omega
        have q2 : ¬ (k : Int) < 40 := by omega
        go_upto_if 53 with fail
        go_cut [4] (fun v wx => ∃ sp : ByteArray, v = .string sp ∧ sp.size ≤ 50 ∧ wx = wr)
        case first =>
          by_cases hs : 50 < sp0.size
          · have s1 : (50 : Int) < (sp0.size : Int) := by omega
            have s2 : (50 : Int) ≤ (sp0.size : Int) := by omega
            go_wp2_with fail
            go_meet
            exact ⟨sp0.extract 0 50, rfl, by rw [ByteArray.size_extract]; omega, rfl⟩
          · have s1 : ¬ (50 : Int) < (sp0.size : Int) := by omega
            go_wp2_with fail
            go_meet
            exact ⟨sp0, rfl, by omega, rfl⟩
        case rest =>
          obtain ⟨sp, rfl, hsp, hcw⟩ := hcut
          subst hcw
          have hvin : Vin wc a n fun i => (wdl G k).getD i nil := Vin.of (B := W0.heap.size) (c := q) (by have := HI.out.2.lv; rw [HI.out.1] at this; exact this)
          have C1 := row_walk (cap := q) hvin (by omega)
          go_wp2_with fail
          refine C1.mono ?_
          rintro e w2 ⟨T, v, rfl, R1⟩
          have RR := RJ.of R1 HI.out.2.bl
          obtain ⟨l, hl⟩ : ∃ l, rwq (fun i => (wdl G k).getD i nil) n = l := ⟨_, rfl⟩
          have HG : Hid (Gl l ∧ l.length ≤ 40 ∧ ∀ x ∈ l, Tv x) := ⟨by rw [← hl]; exact rwq_gl _ n, by have := rwq_le (fun i => (wdl G k).getD i nil) n; rw [hl] at this; omega, fun x hx => by
            rw [← hl] at hx
            obtain ⟨i, h1, h2⟩ := rwq_mem _ n x hx
            rw [h2]
            exact wdl_tv G k _ (getD_mem (by rw [HI.out.1]; exact h1))⟩
          rw [hl] at RR
          obtain ⟨p, hp⟩ : ∃ p, l.length = p := ⟨_, rfl⟩
          have HN : Hid (l.length = p) := hp
          have hp40 : p ≤ 40 := by rw [← hp]; exact HG.out.2.1
          obtain ⟨a1, q1, rfl⟩ := RR.form
          rw [hp] at RR ⊢
          have HR : Hid (RJ W0 T (wc.heap.size + 1) wc.heap.size (10 + 137 * p) 200 l (.slice a1 p q1) l w2.drew) := RR.drew
          have HB0 : Hid (Below w.heap.size w W0) := HV.out.2
          clear C1 R1 RR hl hp HI HV hvin hk hnk
          have wp1 : IntKind.i64.wrap ((p : Int) + 1) = (p : Int) + 1 := by rw [IntKind.wrap_i64]; omega
          have p0 : ¬ (p : Int) + 1 = 0 := by omega
          have hp1000 : p ≤ 1000 := by omega
          obtain ⟨U1, r1, f1, f2, f3, f4, f5, f6, f7, hr1⟩ := pos1_facts xi p hp1000
          obtain ⟨U2, r2, g1, g2, g3, g4, g5, g6, _, hr2⟩ := pos1_facts xj p hp1000
          clear hp1000
          go_wp2_with fail
          go_region
          clear f1 f2 f3 f4 f5 f6 f7 g1 g2 g3 g4 g5 g6
          obtain ⟨W3, hW3⟩ : ∃ W3, w2.drew = W3 := ⟨_, rfl⟩
          rw [hW3] at HR ⊢
          clear hW3
          have HT : Hid (∀ i, i < p → ∃ y : ByteArray, l.getD i nil = (3, 0, y) ∧ y.size ≤ 100) := fun i hi => by
            obtain ⟨h1, h2, h3⟩ := HG.out.2.2 (l.getD i nil) (getD_mem (by rw [HN.out]; exact hi))
            exact ⟨(l.getD i nil).2.2, by rw [← h1, ← h2], h3⟩
          go_wp2
          go_loopw [12, 13] (fun wv kv wx => ∃ kk : Nat, ∃ s : ByteArray, kv = .int .i64 ((kk : Nat) + 1) ∧ wv = .string s ∧ r1 ≤ kk ∧ kk ≤ max r1 r2 ∧ wx = W3 ∧ Hid (s.data.toList = if r1 < r2 then wtL (fun t => (l.getD (r1 + t) nil).2.2) sp (r2 - r1 - 1) (kk - r1) else [])) (fun _ kv _ => (r2 + 2 - intOf kv).toNat)
          case atStart => exact ⟨r1, ⟨#[]⟩, by go_num, rfl, Nat.le_refl _, by omega, rfl, by
            show _ = _
            rw [Nat.sub_self]
            split <;> rfl⟩
          case round =>
            obtain ⟨kk, s, rfl, rfl, hk1, hk2, hwx, HS⟩ := hrel
            subst hwx
            by_cases hlt2 : kk < r2
            · have h1 : (kk : Int) + 1 ≤ (r2 : Int) := by omega
              have h1' : kk < r2 := hlt2
              have x4 : IntKind.i64.wrap ((kk : Int) + 1 - 1) = (kk : Int) := by rw [IntKind.wrap_i64]; omega
              have x5 : IntKind.i64.wrap ((kk : Int) + 1 + 1) = (kk : Int) + 1 + 1 := by rw [IntKind.wrap_i64]; omega
              have hkp : kk < p := by omega
              have hkp' : (kk : Int) < (p : Int) := by omega
              obtain ⟨y, hy1, hy2⟩ := HT.out kk hkp
              obtain ⟨g, rfl, lg, u0, u1, u2⟩ := HR.out.at (i := kk) (by rw [HN.out]; exact hkp)
              rw [hy1] at u0 u1 u2
              have HSz : Hid (s.data.toList = ctL (fun t => (l.getD (r1 + t) nil).2.2) sp (kk - r1)) := by
                have := HS.out
                rw [if_pos (by omega), wtL, if_pos (by omega)] at this
                exact this
              have hss : s.size ≤ 6000 := by
                have e := ctL_len (tx := fun t => (l.getD (r1 + t) nil).2.2) hsp (kk - r1) fun j hj => by
                  obtain ⟨z, z1, z2⟩ := HT.out (r1 + j) (by omega)
                  rw [z1]; exact z2
                rw [← HSz.out, sz_l] at e
                omega
              have HTx : Hid ((l.getD (r1 + (kk - r1)) nil).2.2 = y) := by
                show _ = _
                rw [show r1 + (kk - r1) = kk by omega, hy1]
              have ms : (r2 + 2 - ((kk : Int) + 1 + 1)).toNat < (r2 + 2 - ((kk : Int) + 1)).toNat := by omega
              clear HS lg u0 u1 hy1
              by_cases hlast : kk + 1 < r2
              · have y1 : (kk : Int) + 1 < (r2 : Int) := by omega
                have y1' : kk + 1 < r2 := hlast
                have HN7 : Hid ((s ++ y ++ sp).data.toList = if r1 < r2 then wtL (fun t => (l.getD (r1 + t) nil).2.2) sp (r2 - r1 - 1) (kk + 1 - r1) else []) := by
                  show _ = _
                  rw [if_pos (by omega), wtL, if_pos (by omega), show kk + 1 - r1 = (kk - r1) + 1 by omega, ctL, ba_app, ba_app, HSz.out, HTx.out]
                have hs2 : (s ++ y).size ≤ 6200 := by rw [ByteArray.size_append]; omega
                clear HSz HTx
                go_wp2
                go_roundw
                case rel => exact ⟨kk + 1, s ++ y ++ sp, by go_num, rfl, by omega, by omega, (by simp), HN7⟩
                case measure => first | omega | (simp only [intOf]; omega) | (simp; omega)
              · have y1 : ¬ (kk : Int) + 1 < (r2 : Int) := by omega
                have y1' : ¬ kk + 1 < r2 := hlast
                have HN7 : Hid ((s ++ y).data.toList = if r1 < r2 then wtL (fun t => (l.getD (r1 + t) nil).2.2) sp (r2 - r1 - 1) (kk + 1 - r1) else []) := by
                  show _ = _
                  rw [if_pos (by omega), wtL, if_neg (by omega), ba_app, HSz.out, show kk - r1 = r2 - r1 - 1 by omega]
                  congr 2
                  rw [← HTx.out, show kk - r1 = r2 - r1 - 1 by omega]
                clear HSz HTx
                go_wp2
                go_roundw
                case rel => exact ⟨kk + 1, s ++ y, by go_num, rfl, by omega, by omega, (by simp), HN7⟩
                case measure => first | omega | (simp only [intOf]; omega) | (simp; omega)
            · have h1 : ¬ (kk : Int) + 1 ≤ (r2 : Int) := by omega
              have h1' : ¬ kk < r2 := hlt2
              have w1' : IntKind.i64.wrap ((r2 : Int) - ((r1 : Int) + 1)) = (r2 : Int) - ((r1 : Int) + 1) := by rw [IntKind.wrap_i64]; omega
              have w2' : IntKind.i64.wrap ((r2 : Int) - ((r1 : Int) + 1) + 1) = (r2 : Int) - r1 := by rw [IntKind.wrap_i64]; omega
              obtain ⟨st, mx, hst, hmx, C4⟩ : ∃ st : ByteArray, ∃ mx : Int, s = st ∧ max ((r2 : Int) - r1) 0 = mx ∧ Calls Tryz.prog 18 #[tp T, .string sp, .int .i64 ((r1 : Int) + 1), .int .i64 (r2 : Nat), .int .i64 1000] wr fun e w' => e = .returned (.tuple #[.string st, .int .i64 mx, .int .i64 0]) ∧ RJ W0 T (wc.heap.size + 1) wc.heap.size (10 + 137 * p + 100) 200 l (.slice a1 p q1) l w' := by
                by_cases hrr : r1 < r2
                · have hst := HS.out
                  rw [if_pos hrr, wtL, if_neg (show ¬ kk - r1 ≤ r2 - r1 - 1 by omega)] at hst
                  refine ⟨⟨(ctL (fun t => (l.getD (r1 + t) nil).2.2) sp (r2 - r1 - 1) ++ (l.getD (r1 + (r2 - r1 - 1)) nil).2.2.data.toList).toArray⟩, (r2 : Int) - r1, ba_eq s _ hst, by omega, HR.out.run fun No hq t => ?_⟩
                  have := concat_any t (by omega) ((r1 : Int) + 1) (r2 - r1 - 1) ⟨by omega, by omega⟩ ⟨by omega, by omega⟩ sp hsp (by omega) 1000 (by omega) (by omega) (fun t => (l.getD (r1 + t) nil).2.2) (fun j hj => by
                    obtain ⟨z, z1, z2⟩ := HT.out (r1 + j) (by omega)
                    show (l.getD (r1 + j) nil).2.2.size ≤ 100
                    rw [z1]; exact z2) (fun j hj W => by
                    obtain ⟨z, z1, z2⟩ := HT.out (r1 + j) (by omega)
                    have e : rowf l ((r1 : Int) + 1 + (j : Nat)) = (3, 0, z) := by rw [rowf_in (by omega) (by rw [HN.out]; omega), show ((r1 : Int) + 1 + (j : Nat) - 1).toNat = r1 + j by omega, z1]
                    show Calls Tryz.prog 33 #[vv (rowf l ((r1 : Int) + 1 + (j : Nat)))] W fun e w' => e = .returned (.tuple #[.string (l.getD (r1 + j) nil).2.2, .int .i64 0]) ∧ Below W.heap.size W w'
                    rw [e, z1]
                    exact shown_str z (by omega) W)
                  rw [show (r1 : Int) + 1 + ((r2 - r1 - 1 : Nat) : Int) = (r2 : Int) by omega, show ((r2 - r1 - 1 : Nat) : Int) + 1 = (r2 : Int) - r1 by omega] at this
                  exact this
                · refine ⟨⟨#[]⟩, 0, ba_eq s [] (by have := HS.out; rw [if_neg hrr] at this; exact this), by omega, ?_⟩
                  exact (concat_none T sp ((r1 : Int) + 1) (r2 : Nat) 1000 (by omega) (by omega) wr).mono fun e w' ⟨q1, q2⟩ => ⟨q1, q2 ▸ HR.out.more (by omega)⟩
              subst hst
              clear HS HR HT
              have hb1 : (s.toList == s.toList) = true := by simp
              go_wp2_with fail
              refine C4.mono ?_
              rintro e w6 ⟨rfl, R6⟩
              have C5 := R6.run fun No hq t => is_row (l := l) t HG.out.1 (by omega) (by rw [HN.out]; omega) W0.heap.size a1 q1 (by rw [HN.out]; have := R6.lv; rw [HN.out] at this; exact this) (fun y e => hq y (by rw [HN.out] at e; exact e))
              rw [HN.out] at C5
              clear C4 R6
              go_wp2_with fail
              refine C5.mono ?_
              rintro e w7 ⟨rfl, R7⟩
              have HB7 : Hid (Below w.heap.size w w7) := HB0.out.trans (R7.bl.mono HB0.out.size)
              clear C5 R7
              go_wp2
              go_ret
              exact ⟨rfl, HB7.out⟩
      · have q1 : ¬ (k : Int) < (L : Int) := by omega
        go_upto_if 53 with fail
        go_cut [4] (fun v wx => ∃ sp : ByteArray, v = .string sp ∧ sp.size ≤ 50 ∧ wx = wr)
        case first =>
          by_cases hs : 50 < sp0.size
          · have s1 : (50 : Int) < (sp0.size : Int) := by omega
            have s2 : (50 : Int) ≤ (sp0.size : Int) := by omega
            go_wp2_with fail
            go_meet
            exact ⟨sp0.extract 0 50, rfl, by rw [ByteArray.size_extract]; omega, rfl⟩
          · have s1 : ¬ (50 : Int) < (sp0.size : Int) := by omega
            go_wp2_with fail
            go_meet
            exact ⟨sp0, rfl, by omega, rfl⟩
        case rest =>
          obtain ⟨sp, rfl, hsp, hcw⟩ := hcut
          subst hcw
          have hvin : Vin wc a n fun i => (wdl G k).getD i nil := Vin.of (B := W0.heap.size) (c := q) (by have := HI.out.2.lv; rw [HI.out.1] at this; exact this)
          have C1 := row_walk (cap := q) hvin (by omega)
          go_wp2_with fail
          refine C1.mono ?_
          rintro e w2 ⟨T, v, rfl, R1⟩
          have RR := RJ.of R1 HI.out.2.bl
          obtain ⟨l, hl⟩ : ∃ l, rwq (fun i => (wdl G k).getD i nil) n = l := ⟨_, rfl⟩
          have HG : Hid (Gl l ∧ l.length ≤ 40 ∧ ∀ x ∈ l, Tv x) := ⟨by rw [← hl]; exact rwq_gl _ n, by have := rwq_le (fun i => (wdl G k).getD i nil) n; rw [hl] at this; omega, fun x hx => by
            rw [← hl] at hx
            obtain ⟨i, h1, h2⟩ := rwq_mem _ n x hx
            rw [h2]
            exact wdl_tv G k _ (getD_mem (by rw [HI.out.1]; exact h1))⟩
          rw [hl] at RR
          obtain ⟨p, hp⟩ : ∃ p, l.length = p := ⟨_, rfl⟩
          have HN : Hid (l.length = p) := hp
          have hp40 : p ≤ 40 := by rw [← hp]; exact HG.out.2.1
          obtain ⟨a1, q1, rfl⟩ := RR.form
          rw [hp] at RR ⊢
          have HR : Hid (RJ W0 T (wc.heap.size + 1) wc.heap.size (10 + 137 * p) 200 l (.slice a1 p q1) l w2.drew) := RR.drew
          have HB0 : Hid (Below w.heap.size w W0) := HV.out.2
          clear C1 R1 RR hl hp HI HV hvin hk hnk
          have wp1 : IntKind.i64.wrap ((p : Int) + 1) = (p : Int) + 1 := by rw [IntKind.wrap_i64]; omega
          have p0 : ¬ (p : Int) + 1 = 0 := by omega
          have hp1000 : p ≤ 1000 := by omega
          obtain ⟨U1, r1, f1, f2, f3, f4, f5, f6, f7, hr1⟩ := pos1_facts xi p hp1000
          obtain ⟨U2, r2, g1, g2, g3, g4, g5, g6, _, hr2⟩ := pos1_facts xj p hp1000
          clear hp1000
          go_wp2_with fail
          go_region
          clear f1 f2 f3 f4 f5 f6 f7 g1 g2 g3 g4 g5 g6
          obtain ⟨W3, hW3⟩ : ∃ W3, w2.drew = W3 := ⟨_, rfl⟩
          rw [hW3] at HR ⊢
          clear hW3
          have HT : Hid (∀ i, i < p → ∃ y : ByteArray, l.getD i nil = (3, 0, y) ∧ y.size ≤ 100) := fun i hi => by
            obtain ⟨h1, h2, h3⟩ := HG.out.2.2 (l.getD i nil) (getD_mem (by rw [HN.out]; exact hi))
            exact ⟨(l.getD i nil).2.2, by rw [← h1, ← h2], h3⟩
          go_wp2
          go_loopw [12, 13] (fun wv kv wx => ∃ kk : Nat, ∃ s : ByteArray, kv = .int .i64 ((kk : Nat) + 1) ∧ wv = .string s ∧ r1 ≤ kk ∧ kk ≤ max r1 r2 ∧ wx = W3 ∧ Hid (s.data.toList = if r1 < r2 then wtL (fun t => (l.getD (r1 + t) nil).2.2) sp (r2 - r1 - 1) (kk - r1) else [])) (fun _ kv _ => (r2 + 2 - intOf kv).toNat)
          case atStart => exact ⟨r1, ⟨#[]⟩, by go_num, rfl, Nat.le_refl _, by omega, rfl, by
            show _ = _
            rw [Nat.sub_self]
            split <;> rfl⟩
          case round =>
            obtain ⟨kk, s, rfl, rfl, hk1, hk2, hwx, HS⟩ := hrel
            subst hwx
            by_cases hlt2 : kk < r2
            · have h1 : (kk : Int) + 1 ≤ (r2 : Int) := by omega
              have h1' : kk < r2 := hlt2
              have x4 : IntKind.i64.wrap ((kk : Int) + 1 - 1) = (kk : Int) := by rw [IntKind.wrap_i64]; omega
              have x5 : IntKind.i64.wrap ((kk : Int) + 1 + 1) = (kk : Int) + 1 + 1 := by rw [IntKind.wrap_i64]; omega
              have hkp : kk < p := by omega
              have hkp' : (kk : Int) < (p : Int) := by omega
              obtain ⟨y, hy1, hy2⟩ := HT.out kk hkp
              obtain ⟨g, rfl, lg, u0, u1, u2⟩ := HR.out.at (i := kk) (by rw [HN.out]; exact hkp)
              rw [hy1] at u0 u1 u2
              have HSz : Hid (s.data.toList = ctL (fun t => (l.getD (r1 + t) nil).2.2) sp (kk - r1)) := by
                have := HS.out
                rw [if_pos (by omega), wtL, if_pos (by omega)] at this
                exact this
              have hss : s.size ≤ 6000 := by
                have e := ctL_len (tx := fun t => (l.getD (r1 + t) nil).2.2) hsp (kk - r1) fun j hj => by
                  obtain ⟨z, z1, z2⟩ := HT.out (r1 + j) (by omega)
                  rw [z1]; exact z2
                rw [← HSz.out, sz_l] at e
                omega
              have HTx : Hid ((l.getD (r1 + (kk - r1)) nil).2.2 = y) := by
                show _ = _
                rw [show r1 + (kk - r1) = kk by omega, hy1]
              have ms : (r2 + 2 - ((kk : Int) + 1 + 1)).toNat < (r2 + 2 - ((kk : Int) + 1)).toNat := by omega
              clear HS lg u0 u1 hy1
              by_cases hlast : kk + 1 < r2
              · have y1 : (kk : Int) + 1 < (r2 : Int) := by omega
                have y1' : kk + 1 < r2 := hlast
                have HN7 : Hid ((s ++ y ++ sp).data.toList = if r1 < r2 then wtL (fun t => (l.getD (r1 + t) nil).2.2) sp (r2 - r1 - 1) (kk + 1 - r1) else []) := by
                  show _ = _
                  rw [if_pos (by omega), wtL, if_pos (by omega), show kk + 1 - r1 = (kk - r1) + 1 by omega, ctL, ba_app, ba_app, HSz.out, HTx.out]
                have hs2 : (s ++ y).size ≤ 6200 := by rw [ByteArray.size_append]; omega
                clear HSz HTx
                go_wp2
                go_roundw
                case rel => exact ⟨kk + 1, s ++ y ++ sp, by go_num, rfl, by omega, by omega, (by simp), HN7⟩
                case measure => first | omega | (simp only [intOf]; omega) | (simp; omega)
              · have y1 : ¬ (kk : Int) + 1 < (r2 : Int) := by omega
                have y1' : ¬ kk + 1 < r2 := hlast
                have HN7 : Hid ((s ++ y).data.toList = if r1 < r2 then wtL (fun t => (l.getD (r1 + t) nil).2.2) sp (r2 - r1 - 1) (kk + 1 - r1) else []) := by
                  show _ = _
                  rw [if_pos (by omega), wtL, if_neg (by omega), ba_app, HSz.out, show kk - r1 = r2 - r1 - 1 by omega]
                  congr 2
                  rw [← HTx.out, show kk - r1 = r2 - r1 - 1 by omega]
                clear HSz HTx
                go_wp2
                go_roundw
                case rel => exact ⟨kk + 1, s ++ y, by go_num, rfl, by omega, by omega, (by simp), HN7⟩
                case measure => first | omega | (simp only [intOf]; omega) | (simp; omega)
            · have h1 : ¬ (kk : Int) + 1 ≤ (r2 : Int) := by omega
              have h1' : ¬ kk < r2 := hlt2
              have w1' : IntKind.i64.wrap ((r2 : Int) - ((r1 : Int) + 1)) = (r2 : Int) - ((r1 : Int) + 1) := by rw [IntKind.wrap_i64]; omega
              have w2' : IntKind.i64.wrap ((r2 : Int) - ((r1 : Int) + 1) + 1) = (r2 : Int) - r1 := by rw [IntKind.wrap_i64]; omega
              obtain ⟨st, mx, hst, hmx, C4⟩ : ∃ st : ByteArray, ∃ mx : Int, s = st ∧ max ((r2 : Int) - r1) 0 = mx ∧ Calls Tryz.prog 18 #[tp T, .string sp, .int .i64 ((r1 : Int) + 1), .int .i64 (r2 : Nat), .int .i64 1000] wr fun e w' => e = .returned (.tuple #[.string st, .int .i64 mx, .int .i64 0]) ∧ RJ W0 T (wc.heap.size + 1) wc.heap.size (10 + 137 * p + 100) 200 l (.slice a1 p q1) l w' := by
                by_cases hrr : r1 < r2
                · have hst := HS.out
                  rw [if_pos hrr, wtL, if_neg (show ¬ kk - r1 ≤ r2 - r1 - 1 by omega)] at hst
                  refine ⟨⟨(ctL (fun t => (l.getD (r1 + t) nil).2.2) sp (r2 - r1 - 1) ++ (l.getD (r1 + (r2 - r1 - 1)) nil).2.2.data.toList).toArray⟩, (r2 : Int) - r1, ba_eq s _ hst, by omega, HR.out.run fun No hq t => ?_⟩
                  have := concat_any t (by omega) ((r1 : Int) + 1) (r2 - r1 - 1) ⟨by omega, by omega⟩ ⟨by omega, by omega⟩ sp hsp (by omega) 1000 (by omega) (by omega) (fun t => (l.getD (r1 + t) nil).2.2) (fun j hj => by
                    obtain ⟨z, z1, z2⟩ := HT.out (r1 + j) (by omega)
                    show (l.getD (r1 + j) nil).2.2.size ≤ 100
                    rw [z1]; exact z2) (fun j hj W => by
                    obtain ⟨z, z1, z2⟩ := HT.out (r1 + j) (by omega)
                    have e : rowf l ((r1 : Int) + 1 + (j : Nat)) = (3, 0, z) := by rw [rowf_in (by omega) (by rw [HN.out]; omega), show ((r1 : Int) + 1 + (j : Nat) - 1).toNat = r1 + j by omega, z1]
                    show Calls Tryz.prog 33 #[vv (rowf l ((r1 : Int) + 1 + (j : Nat)))] W fun e w' => e = .returned (.tuple #[.string (l.getD (r1 + j) nil).2.2, .int .i64 0]) ∧ Below W.heap.size W w'
                    rw [e, z1]
                    exact shown_str z (by omega) W)
                  rw [show (r1 : Int) + 1 + ((r2 - r1 - 1 : Nat) : Int) = (r2 : Int) by omega, show ((r2 - r1 - 1 : Nat) : Int) + 1 = (r2 : Int) - r1 by omega] at this
                  exact this
                · refine ⟨⟨#[]⟩, 0, ba_eq s [] (by have := HS.out; rw [if_neg hrr] at this; exact this), by omega, ?_⟩
                  exact (concat_none T sp ((r1 : Int) + 1) (r2 : Nat) 1000 (by omega) (by omega) wr).mono fun e w' ⟨q1, q2⟩ => ⟨q1, q2 ▸ HR.out.more (by omega)⟩
              subst hst
              clear HS HR HT
              have hb1 : (s.toList == s.toList) = true := by simp
              go_wp2_with fail
              refine C4.mono ?_
              rintro e w6 ⟨rfl, R6⟩
              have C5 := R6.run fun No hq t => is_row (l := l) t HG.out.1 (by omega) (by rw [HN.out]; omega) W0.heap.size a1 q1 (by rw [HN.out]; have := R6.lv; rw [HN.out] at this; exact this) (fun y e => hq y (by rw [HN.out] at e; exact e))
              rw [HN.out] at C5
              clear C4 R6
              go_wp2_with fail
              refine C5.mono ?_
              rintro e w7 ⟨rfl, R7⟩
              have HB7 : Hid (Below w.heap.size w w7) := HB0.out.trans (R7.bl.mono HB0.out.size)
              clear C5 R7
              go_wp2
              go_ret
              exact ⟨rfl, HB7.out⟩
end Go.Proofs.YtckgoedlgecokaaGreatDoor

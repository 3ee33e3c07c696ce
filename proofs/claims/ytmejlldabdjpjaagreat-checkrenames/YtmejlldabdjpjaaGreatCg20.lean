/- The walk of scan: from step to step. -/
import Derived.Test.YtmejlldabdjpjaaGreatCg19
import Derived.Defers
import Derived.Recover
import Derived.Test.YtmejlldabdjpjaaGreatCg00
import Derived.Laws.StructEq
import Derived.Test.YtmejlldabdjpjaaGreatCg04
namespace Go.Proofs.YtmejlldabdjpjaaGreat
open Go.RowKit
/-- What the going through a text leaves. -/
def RO (b B : Nat) (s : ByteArray) (V : World) (N : Nat) : Res → Ending → World → Prop
  | .ok ts, e, W' => e = .returned (.tuple #[]) ∧ SC b B s ts W' ∧ Kp b N V W'
  | .bad c p, e, W' => e = refu c p ∧ Kp b N V W'
theorem Kp.mono {b B B' : Nat} {x y : World} (h : Kp b B x y) (hB : B' ≤ B) : Kp b B' x y := ⟨h.os, h.tape, h.output, h.size, fun k hk hn => h.block k (by omega) hn⟩
theorem Kp.iterAt {b B k : Nat} {x y : World} (h : Kp b B x y) (hk : B ≤ k) (s : ByteArray) (p : Nat) : Kp b B x (y.iterAt k s p) :=
  h.trans ⟨rfl, rfl, rfl, by rw [Lib.iterAt_size]; exact Nat.le_refl _, fun j hj _ => Lib.iterAt_other y k j s p (by omega)⟩
theorem SC.drew {b B : Nat} {s : ByteArray} {ts : List Tok} {W : World} (h : SC b B s ts W) : SC b B s ts W.drew := ⟨h.src, h.tok, h.free, h.lt⟩
set_option maxRecDepth 20000 in
set_option maxHeartbeats 4000000 in
theorem scan_any (b : Nat) (s : ByteArray) (V : World) (hsrc : V.cell? ⟨b, 0, none⟩ = some (.string s)) (htok : V.cell? ⟨b, 1, none⟩ = some (.slice none 0 0)) (hfr : V.frozen? ⟨b, 1, none⟩ = false) (hbV : b < V.heap.size) (hs : s.size ≤ 20000) :
    Calls Tryz.prog 47 #[.pointer (some ⟨b, 0, none⟩)] V fun e W' => RO b (V.heap.size + 1) s V V.heap.size (scn (LD s 0) 0 []) e W' := by
  obtain ⟨R, hR⟩ : ∃ R, scn (LD s 0) 0 [] = R := ⟨_, rfl⟩
  rw [hR]
  have HR0 : Hid (scn (LD s 0) 0 [] = R) := hR
  clear hR
  have hSC0 : SC b (V.heap.size + 1) s [] (V.alloc (.stringIter s 0)) :=
    ⟨alloc_cell hbV hsrc _, ⟨_, alloc_cell hbV htok _, World.ownsRow_nil _ _ _ _⟩, alloc_frozen hbV hfr _, by omega, by simp⟩
  go_enter Tryz.func47, Tryz.ntmps47
  go_wp2
  go_loopg [2] (s.size + 1) (fun gf v2 wx => ∃ (pos T : Nat) (ts : List Tok), pos ≤ s.size ∧ wx.heap[V.heap.size]? = some (.stringIter s pos) ∧ v2 = .int .i64 T ∧ Hid (Ch s pos T) ∧ SC b (V.heap.size + 1) s ts wx ∧ Kp b V.heap.size V wx ∧ ts.length ≤ T ∧ Hid (scn (LD s T) T ts = R) ∧ s.size < pos + gf)
  case atStart => exact ⟨0, 0, [], Nat.zero_le _, World.iter_heap V s 0, rfl, .refl 0, hSC0, Kp.of_below ((Below.refl _ _).alloc (Nat.le_refl _) _) (Nat.le_refl _), Nat.le_refl _, HR0, by omega⟩
  case round =>
    obtain ⟨pos, T, ts, hple, hi, rfl, hCh, hSC, hK, htl, hR, hfu⟩ := hrel
    have hpT := hCh.out.le
    by_cases hps : pos < s.size
    · obtain ⟨g', rfl⟩ : ∃ g', gk = g' + 1 := ⟨gk - 1, by omega⟩
      have hnx : ∀ ty, (Instr.next (.pointer (some ⟨V.heap.size, 0, none⟩)) true ty).run Tryz.prog wr = .ok (.tuple #[.bool true, .int .i64 pos, .int .i32 (rn s pos)]) (wr.iterAt V.heap.size s (pos + wd s pos)) := fun ty => Lib.run_next_any_at wr V.heap.size s pos ty hi hps
      have hwp := wd_pos s pos
      have hwl := wd_le s pos hps
      have hi2 := Lib.iterAt_heap wr V.heap.size s pos (pos + wd s pos) hi
      have hSC2 := hSC.iterAt (p' := pos + wd s pos) hi (by omega)
      have hK2 := hK.iterAt (Nat.le_refl _) s (pos + wd s pos)
      obtain ⟨W, hW⟩ : ∃ W, wr.iterAt V.heap.size s (pos + wd s pos) = W := ⟨_, rfl⟩
      rw [hW] at hnx hi2 hSC2 hK2
      clear hi hSC hK hW
      by_cases hsk : pos < T
      · have HC : Hid (Ch s (pos + wd s pos) T) := (hCh.out.out (by omega)).2
        clear hCh
        go_wp2
        go_roundg g'
        case measure => omega
        case rel => exact ⟨pos + wd s pos, T, ts, hwl, hi2, rfl, HC, hSC2, hK2, htl, hR, by omega⟩
      · have hTp : T = pos := by omega
        subst hTp
        have CT := take_any b (V.heap.size + 1) s ts W hSC2 T hps hs (by omega) (rn s T) rfl
        have hch := ch_stp s T hps
        have hpp := stp_pos (LD s T) (LD_ne s T hps)
        cases hst : stp (LD s T) with
        | skip n =>
          rw [hst] at CT
          have HC : Hid (Ch s (T + wd s T) (T + n)) := hch.1 n hst
          have HR : Hid (scn (LD s (T + n)) (T + n) ts = R) := by
            show _ = _
            rw [← hR.out, scn_skip (LD_ne s T hps) hst, LD_drop]
          have hnn := (hpp.1 n hst).1
          clear hch hpp hst hR hCh
          go_wp2_with (go_at_call 85; refine CT.mono ?_; rintro e w2 ⟨rfl, h1, h2⟩)
          go_roundg g'
          case measure => omega
          case rel => exact ⟨T + wd s T, T + n, ts, hwl, (h2.block _ (by omega) (by omega)).trans hi2, by go_num, HC, h1, hK2.trans (h2.mono (by omega)), by omega, HR, by omega⟩
        | tok k t v n =>
          rw [hst] at CT
          have HC : Hid (Ch s (T + wd s T) (T + n)) := hch.2 k t v n hst
          have HR : Hid (scn (LD s (T + n)) (T + n) (ts ++ [⟨k, t, v, T⟩]) = R) := by
            show _ = _
            rw [← hR.out, scn_tok (LD_ne s T hps) hst, LD_drop]
          have hnn := (hpp.2 k t v n hst).1
          clear hch hpp hst hR hCh
          go_wp2_with (go_at_call 85; refine CT.mono ?_; rintro e w2 ⟨rfl, h1, h2⟩)
          go_roundg g'
          case measure => omega
          case rel => exact ⟨T + wd s T, T + n, _, hwl, (h2.block _ (by omega) (by omega)).trans hi2, by go_num, HC, h1, hK2.trans (h2.mono (by omega)), by simp; omega, HR, by omega⟩
        | bad c x =>
          rw [hst] at CT
          have HR : Hid (R = .bad c (T + x)) := by
            show _ = _
            rw [← hR.out, scn_bad (LD_ne s T hps) hst]
          clear hch hpp hst hR hCh
          go_wp2_with (go_at_call 85; refine CT.mono ?_; rintro e w2 ⟨he, h2⟩; unfold refu at he; subst he)
          exact ⟨rfl, by rw [HR.out]; exact ⟨rfl, hK2.trans (h2.mono (by omega))⟩⟩
    · have hnx : ∀ ty, (Instr.next (.pointer (some ⟨V.heap.size, 0, none⟩)) true ty).run Tryz.prog wr = .ok (.tuple #[.bool false]) wr := fun ty => Lib.run_next_end_at wr V.heap.size s pos ty hi hps
      have hTe : T = pos := hCh.out.end hps
      subst hTe
      have hTs : T = s.size := by omega
      have HR : Hid (R = .ok (ts ++ [⟨6, [], 0, s.size⟩])) := by
        show _ = _
        rw [← hR.out, LD_nil s T hps, scn_nil, hTs]
      have CA := fun w (hw : SC b (V.heap.size + 1) s ts w) => add_any b (V.heap.size + 1) s ts w hw 6 0 s.size s.size (Nat.le_refl _) (Nat.le_refl _) hs (by omega)
      have et : (s.data.toList.drop s.size).take (s.size - s.size) = [] := by simp
      rw [et] at CA
      have hsrcW := hSC.src
      have hbw : b < wr.heap.size := by have := hSC.lt; omega
      clear hR hCh hTs et
      go_wp2_with fail
      go_region_held3 (fun w' => w'.cell? ⟨b, 0, none⟩ = some (.string s)) (first | go_keep | exact h1.src) ((go_at_call 86; refine (CA _ (by first | exact hSC | exact hSC.drew)).mono ?_; rintro e w1 ⟨rfl, h1, h2⟩))
      go_wp2
      go_end0
      rw [HR.out]
      exact ⟨rfl, h1, hK.trans ((Kp.undrew h2).mono (by omega))⟩
end Go.Proofs.YtmejlldabdjpjaaGreat

/- The walk of Scan: a refusal is caught at the face. -/
namespace Go.Proofs.YtmejlldabdjpjaaGreat
open Go.RowKit
theorem ta_yes (v : Value) (w : World) : (Instr.typeAssert (.iface 104 v) 20 104 true).run Tryz.prog w = .ok (.tuple #[v, .bool true]) w := by
  have hu := Tryz.underlying104
  unfold Instr.typeAssert
  simp_all [run_underlying hu, go_sem, Result.andThen]
theorem ta_nil (w : World) : (Instr.typeAssert .nilIface 20 104 true).run Tryz.prog w = .ok (.tuple #[.agg #[.int .i64 0, .int .i64 0], .bool false]) w := by
  have hu := Tryz.underlying104
  have hz : ∀ w, (zeroValue 104).run Tryz.prog w = .ok (.agg #[.int .i64 0, .int .i64 0]) w := fun w => by kernel_rfl
  unfold Instr.typeAssert
  simp_all [run_underlying hu, go_sem, Result.andThen]
set_option maxHeartbeats 1000000 in
theorem catch_idle (a : Nat) (w : World) :
    CallsD Tryz.prog 46 #[.pointer (some ⟨a, 0, none⟩), .pointer (some ⟨a + 1, 0, none⟩)] .returning w fun e u' w' => e = .returned (.tuple #[]) ∧ u' = .returning ∧ Below w.heap.size w w' := by
  have hta := ta_nil
  refine callsD_of_wpS Tryz.func46 rfl fun c₀ cs hu => ?_
  apply wpS_seq
  apply wpS_region
  simp [wpOpsS, go_sem, recoverD, hu, Tryz.ntmps46, Exit.thenS, hta]
  refine wpS_of_wp ?_
  change Code.wp Tryz.prog _ _ ⟨#[.pointer (some ⟨a, 0, none⟩), .pointer (some ⟨a + 1, 0, none⟩), .pointer (some ⟨w.heap.size, 0, none⟩), .bool false, .tuple #[.agg #[.int .i64 0, .int .i64 0], .bool false], .nilIface, .tuple #[.agg #[.int .i64 0, .int .i64 0], .bool false], .agg #[.int .i64 0, .int .i64 0], .bool false, undef, undef], []⟩ _
  go_wp2
  refine ⟨rfl, .returning, by cases c₀; simp_all, .tuple #[], by simp [results, Tryz.results46, go_sem], rfl, rfl, (Below.refl _ _).alloc (Nat.le_refl _) _⟩
theorem arr11 (p0 p1 v2 v3 v4 v5 v6 v7 v8 : Value) : #[p0, p1] ++ (((((((Array.replicate 9 undef).setIfInBounds 3 v5).setIfInBounds 4 v6).setIfInBounds 2 v4).setIfInBounds 5 v7).setIfInBounds 6 v8).setIfInBounds 0 v2).setIfInBounds 1 v3 = #[p0, p1, v2, v3, v4, v5, v6, v7, v8, undef, undef] := by kernel_rfl
set_option maxHeartbeats 1000000 in
theorem catch_panicking (a : Nat) (c x : Int) (older : List PanicEntry) (w : World) (u0 u1 u2 : Value) (h0 : w.cell? ⟨a, 0, none⟩ = some u0) (f0 : w.frozen? ⟨a, 0, none⟩ = false) (h1 : w.cell? ⟨a + 1, 0, none⟩ = some u1) (f1 : w.frozen? ⟨a + 1, 0, none⟩ = false) (h2 : w.cell? ⟨a + 1, 1, none⟩ = some u2) (f2 : w.frozen? ⟨a + 1, 1, none⟩ = false) (hlt : a + 1 < w.heap.size) :
    CallsD Tryz.prog 46 #[.pointer (some ⟨a, 0, none⟩), .pointer (some ⟨a + 1, 0, none⟩)] (.panicking ({ v := .iface 104 (.agg #[.int .i64 c, .int .i64 x]), recovered := false } :: older)) w fun e u' w' =>
      e = .returned (.tuple #[]) ∧ u' = .panicking ({ v := .iface 104 (.agg #[.int .i64 c, .int .i64 x]), recovered := true } :: older) ∧ w'.cell? ⟨a, 0, none⟩ = some (.slice none 0 0) ∧ w'.cell? ⟨a + 1, 0, none⟩ = some (.int .i64 c) ∧ w'.cell? ⟨a + 1, 1, none⟩ = some (.int .i64 x) ∧ Below a w w' := by
  have hta := ta_yes
  have g0 := alloc_cell (W := w) (b := a) (by omega) h0 (.cells #[.int .i64 c, .int .i64 x] 104)
  have g1 := alloc_cell (W := w) (b := a + 1) hlt h1 (.cells #[.int .i64 c, .int .i64 x] 104)
  have g2 := alloc_cell (W := w) (b := a + 1) hlt h2 (.cells #[.int .i64 c, .int .i64 x] 104)
  have k0 := alloc_frozen (W := w) (b := a) (by omega) f0 (.cells #[.int .i64 c, .int .i64 x] 104)
  have k1 := alloc_frozen (W := w) (b := a + 1) hlt f1 (.cells #[.int .i64 c, .int .i64 x] 104)
  have k2 := alloc_frozen (W := w) (b := a + 1) hlt f2 (.cells #[.int .i64 c, .int .i64 x] 104)
  refine callsD_of_wpS Tryz.func46 rfl fun c₀ cs hu => ?_
  apply wpS_seq
  apply wpS_region
  simp [wpOpsS, go_sem, recoverD, hu, Tryz.ntmps46, Exit.thenS, hta]
  refine wpS_of_wp ?_
  rw [arr11]
  go_wp2
  go_region
  all_goals
    refine ⟨rfl, .panicking ({ v := .iface 104 (.agg #[.int .i64 c, .int .i64 x]), recovered := true } :: older), by cases c₀; simp_all, .tuple #[], by simp [results, Tryz.results46, go_sem], rfl, rfl, ?_⟩
    refine ⟨by simp [go_sem, g0], by simp [go_sem, g1], by simp [go_sem, g2], ?_⟩
    exact (((((Below.refl a w).alloc (by omega) _).setCell (Nat.le_refl _) _).setCell (Nat.le_succ _) _).setCell (Nat.le_succ _) _).drew
/-- What Scan tells: tokens, a fault's number, its place. -/
def scT (l : List UInt8) : List Tok × Int × Int :=
  if 20000 < l.length then ([], 14, -1) else match scn l 0 [] with | .ok ts => (ts, 0, 0) | .bad c p => ([], c, p)
set_option maxHeartbeats 2000000 in
theorem Scan_big (s : ByteArray) (w : World) (hb : 20000 < s.size) (hs : s.size ≤ 9223372036854775807) :
    Calls Tryz.prog 30 #[.string s] w fun e W' => e = .returned (.tuple #[.slice none 0 0, .agg #[.int .i64 14, .int .i64 (-1)]]) ∧ Below w.heap.size w W' := by
  have hmf : ∀ (fn : Fn) (first cap : Array Value) (w : World), (Instr.makeFunc fn first cap).run Tryz.prog w = .ok (.func fn first cap) w := fun _ _ _ _ => rfl
  go_enter_defers Tryz.func30, Tryz.ntmps30
  go_wp2
  simp [bodyPostD, Leaves, results, Tryz.results30, go_sem]
  exact ((Below.refl _ w).alloc (Nat.le_refl _) _).alloc (by simp) _
set_option maxHeartbeats 2000000 in
theorem Scan_small (s : ByteArray) (w : World) (hs : s.size ≤ 20000) (R : Res) (hR : scn (LD s 0) 0 [] = R) :
    Calls Tryz.prog 30 #[.string s] w fun e W' => ∃ v ts c p, e = .returned (.tuple #[v, .agg #[.int .i64 c, .int .i64 p]]) ∧ (ts, c, p) = (match R with | .ok ts => (ts, 0, 0) | .bad c p => ([], c, (p : Int))) ∧ W'.ownsRow w.heap.size 86 4 v ts.length (cellsT ts) ∧ Below w.heap.size w W' := by
  have hmf : ∀ (fn : Fn) (first cap : Array Value) (w : World), (Instr.makeFunc fn first cap).run Tryz.prog w = .ok (.func fn first cap) w := fun _ _ _ _ => rfl
  obtain ⟨V, hV⟩ : ∃ V, ((w.alloc (.cells #[.slice none 0 0] 77)).alloc (.cells #[.int .i64 0, .int .i64 0] 28)).alloc (.cells #[.string s, .slice none 0 0] 107) = V := ⟨_, rfl⟩
  have hVs : V.heap.size = w.heap.size + 3 := by rw [← hV]; simp
  have CS := scan_any (w.heap.size + 2) s V (by rw [← hV]; simp [go_sem]) (by rw [← hV]; simp [go_sem]) (by rw [← hV]; simp [go_sem]) (by omega) hs
  rw [hR] at CS
  have hBV : Below w.heap.size w V := by rw [← hV]; exact (((Below.refl _ w).alloc (Nat.le_refl _) _).alloc (by simp) _).alloc (by simp; omega) _
  have c0 : V.cell? ⟨w.heap.size, 0, none⟩ = some (.slice none 0 0) := by rw [← hV]; simp [go_sem]
  have c1 : V.cell? ⟨w.heap.size + 1, 0, none⟩ = some (.int .i64 0) := by rw [← hV]; simp [go_sem]
  have c2 : V.cell? ⟨w.heap.size + 1, 1, none⟩ = some (.int .i64 0) := by rw [← hV]; simp [go_sem]
  have d0 : V.frozen? ⟨w.heap.size, 0, none⟩ = false := by rw [← hV]; simp [go_sem]
  have d1 : V.frozen? ⟨w.heap.size + 1, 0, none⟩ = false := by rw [← hV]; simp [go_sem]
  have d2 : V.frozen? ⟨w.heap.size + 1, 1, none⟩ = false := by rw [← hV]; simp [go_sem]
  have HV : Hid (((w.alloc (.cells #[.slice none 0 0] 77)).alloc (.cells #[.int .i64 0, .int .i64 0] 28)).alloc (.cells #[.string s, .slice none 0 0] 107) = V) := hV
  cases R with
  | ok ts =>
    rw [← hV] at CS
    clear hV hR
    go_enter_defers Tryz.func30, Tryz.ntmps30
    go_wp2_with (go_at_call 47; refine CS.mono ?_; rintro e w1 ⟨rfl, h1, h2⟩; rw [HV.out] at h1 h2; obtain ⟨v, hv, hown⟩ := h1.tok; obtain ⟨av, cv, rfl⟩ := slice_shape hown; have q0 : w1.cell? ⟨w.heap.size, 0, none⟩ = some (.slice none 0 0) := (World.cell?_of_block (h2.block w.heap.size (by omega) (by omega))).trans c0; have q1 : w1.cell? ⟨w.heap.size + 1, 0, none⟩ = some (.int .i64 0) := (World.cell?_of_block (h2.block (w.heap.size + 1) (by omega) (by omega))).trans c1; have q2 : w1.cell? ⟨w.heap.size + 1, 1, none⟩ = some (.int .i64 0) := (World.cell?_of_block (h2.block (w.heap.size + 1) (by omega) (by omega))).trans c2; have r0 : w1.frozen? ⟨w.heap.size, 0, none⟩ = false := (World.frozen?_of_block (h2.block w.heap.size (by omega) (by omega))).trans d0; have r1 : w1.frozen? ⟨w.heap.size + 1, 0, none⟩ = false := (World.frozen?_of_block (h2.block (w.heap.size + 1) (by omega) (by omega))).trans d1; have r2 : w1.frozen? ⟨w.heap.size + 1, 1, none⟩ = false := (World.frozen?_of_block (h2.block (w.heap.size + 1) (by omega) (by omega))).trans d2)
    have hsz := h2.size
    obtain ⟨W3, hW3⟩ : ∃ W3, ((w1.setCell ⟨w.heap.size, 0, none⟩ (.slice av ts.length cv)).setCell ⟨w.heap.size + 1, 0, none⟩ (.int .i64 0)).setCell ⟨w.heap.size + 1, 1, none⟩ (.int .i64 0) = W3 := ⟨_, rfl⟩
    have hsz3 : W3.heap.size = w1.heap.size := by rw [← hW3]; simp
    have hown3 : W3.ownsRow (V.heap.size + 1) 86 4 (.slice av ts.length cv) ts.length (cellsT ts) := by
      rw [← hW3]
      exact ownsRow_setCell_below (ownsRow_setCell_below (ownsRow_setCell_below hown (by show w.heap.size < _; omega) _) (by show w.heap.size + 1 < _; omega) _) (by show w.heap.size + 1 < _; omega) _
    have hB3 : Below w.heap.size w W3 := by
      rw [← hW3]
      exact (((hBV.trans ((h2.below (by omega)).mono (by omega))).setCell (Nat.le_refl _) _).setCell (Nat.le_succ _) _).setCell (Nat.le_succ _) _
    have y0 : W3.cell? ⟨w.heap.size, 0, none⟩ = some (.slice av ts.length cv) := by rw [← hW3]; simp [go_sem, q0]
    have y1 : W3.cell? ⟨w.heap.size + 1, 0, none⟩ = some (.int .i64 0) := by rw [← hW3]; simp [go_sem, q1]
    have y2 : W3.cell? ⟨w.heap.size + 1, 1, none⟩ = some (.int .i64 0) := by rw [← hW3]; simp [go_sem, q2]
    rw [hW3]
    refine leaves_cons (f := 46) (args := #[.pointer (some ⟨w.heap.size, 0, none⟩), .pointer (some ⟨w.heap.size + 1, 0, none⟩)]) (by simp) (by simp [go_sem]) ?_
    refine (catch_idle w.heap.size W3).mono ?_
    rintro e u' w2 ⟨rfl, rfl, hB⟩
    have z0 := (hB.cell (p := ⟨w.heap.size, 0, none⟩) (by show w.heap.size < _; omega)).trans y0
    have z1 := (hB.cell (p := ⟨w.heap.size + 1, 0, none⟩) (by show w.heap.size + 1 < _; omega)).trans y1
    have z2 := (hB.cell (p := ⟨w.heap.size + 1, 1, none⟩) (by show w.heap.size + 1 < _; omega)).trans y2
    refine ⟨.tuple #[.slice av ts.length cv, .agg #[.int .i64 0, .int .i64 0]], by simp [results, Tryz.results30, go_sem, z0, z1, z2], ?_⟩
    exact ⟨_, ts, 0, 0, rfl, rfl, own_base (own_below hown3 hB) (by omega), hB3.trans (hB.mono (by omega))⟩
  | bad c p =>
    rw [← hV] at CS
    clear hV hR
    go_enter_defers Tryz.func30, Tryz.ntmps30
    go_wp2_with (go_at_call 47; refine CS.mono ?_; rintro e w1 ⟨he, h2⟩; unfold refu at he; subst he)
    rw [HV.out] at h2
    have hb2 : ∀ k, k < w.heap.size + 2 → w1.heap[k]? = V.heap[k]? := fun k hk => h2.block k (by omega) (by omega)
    have hsz := h2.size
    refine leaves_cons (f := 46) (args := #[.pointer (some ⟨w.heap.size, 0, none⟩), .pointer (some ⟨w.heap.size + 1, 0, none⟩)]) (by simp) (by simp [go_sem]) ?_
    refine (catch_panicking w.heap.size c p [] w1 _ _ _ ((World.cell?_of_block (hb2 w.heap.size (by omega))).trans c0) ((World.frozen?_of_block (hb2 w.heap.size (by omega))).trans d0) ((World.cell?_of_block (hb2 (w.heap.size + 1) (by omega))).trans c1) ((World.frozen?_of_block (hb2 (w.heap.size + 1) (by omega))).trans d1) ((World.cell?_of_block (hb2 (w.heap.size + 1) (by omega))).trans c2) ((World.frozen?_of_block (hb2 (w.heap.size + 1) (by omega))).trans d2) (by omega)).mono ?_
    rintro e u' w2 ⟨rfl, rfl, k0, k1, k2, hB⟩
    simp [Leaves, settle, results, Tryz.results30, go_sem, k0, k1, k2]
    exact ⟨_, [], c, p, ⟨rfl, rfl, rfl⟩, ⟨rfl, rfl, rfl⟩, World.ownsRow_nil _ _ _ _, (hBV.trans ((h2.below (by omega)).mono (by omega))).trans hB⟩
theorem scT_len (s : ByteArray) : s.data.toList.length = s.size := Array.length_toList
/-- Scan, whole. -/
theorem Scan_any (s : ByteArray) (w : World) (hs : s.size ≤ 9223372036854775807) :
    Calls Tryz.prog 30 #[.string s] w fun e W' => ∃ v, e = .returned (.tuple #[v, .agg #[.int .i64 (scT s.data.toList).2.1, .int .i64 (scT s.data.toList).2.2]]) ∧ W'.ownsRow w.heap.size 86 4 v (scT s.data.toList).1.length (cellsT (scT s.data.toList).1) ∧ Below w.heap.size w W' := by
  by_cases hb : 20000 < s.size
  · refine (Scan_big s w hb hs).mono fun e W' ⟨he, hB⟩ => ?_
    have : scT s.data.toList = ([], 14, -1) := by unfold scT; rw [scT_len, if_pos hb]
    rw [this]
    exact ⟨_, he, World.ownsRow_nil _ _ _ _, hB⟩
  · refine (Scan_small s w (by omega) _ rfl).mono fun e W' ⟨v, ts, c, p, he, h1, h2, hB⟩ => ?_
    have : scT s.data.toList = (ts, c, p) := by
      unfold scT
      rw [scT_len, if_neg hb, h1]
      rfl
    rw [this]
    exact ⟨v, he, h2, hB⟩
end Go.Proofs.YtmejlldabdjpjaaGreat

/- Plain facts on the bytes of a text's runes (no program in it): where the k-th rune begins; the runes' bytes are the text's. -/
namespace Go.Proofs.YtmejlldabdjpjaaGreat
/-- Where the k-th rune begins. -/
def pos (s : ByteArray) : Nat → Nat
  | 0 => 0
  | k + 1 => if pos s k < s.size then pos s k + wd s (pos s k) else pos s k
end Go.Proofs.YtmejlldabdjpjaaGreat

/- Plain facts on valid runes (no program in it): a valid rune is read the same wherever its bytes stand. -/
namespace Go.Proofs.YtmejlldabdjpjaaGreat
theorem decodeN_local (n n' b0 b1 b2 b3 c1 c2 c3 : Nat) (hg : ¬ ((Lib.decodeN n b0 b1 b2 b3).1 = 65533 ∧ (Lib.decodeN n b0 b1 b2 b3).2 = 1)) (hn : (Lib.decodeN n b0 b1 b2 b3).2 ≤ n')
    (h1 : 2 ≤ (Lib.decodeN n b0 b1 b2 b3).2 → c1 = b1) (h2 : 3 ≤ (Lib.decodeN n b0 b1 b2 b3).2 → c2 = b2) (h3 : 4 ≤ (Lib.decodeN n b0 b1 b2 b3).2 → c3 = b3) :
    Lib.decodeN n' b0 c1 c2 c3 = Lib.decodeN n b0 b1 b2 b3 := by
  by_cases a1 : b0 < 128
  · unfold Lib.decodeN; rw [if_pos a1, if_pos a1]
  by_cases a2 : b0 / 32 = 6 ∧ 1 < n ∧ b1 / 64 = 2
  · by_cases a3 : b0 % 32 * 64 + b1 % 64 ≥ 128
    · have e : Lib.decodeN n b0 b1 b2 b3 = (b0 % 32 * 64 + b1 % 64, 2) := by unfold Lib.decodeN; rw [if_neg a1, if_pos a2, if_pos a3]
      rw [e] at hn h1 ⊢
      obtain rfl := h1 (Nat.le_refl _)
      unfold Lib.decodeN
      rw [if_neg a1, if_pos ⟨a2.1, hn, a2.2.2⟩, if_pos a3]
    · have e : Lib.decodeN n b0 b1 b2 b3 = (65533, 1) := by unfold Lib.decodeN; rw [if_neg a1, if_pos a2, if_neg a3]
      rw [e] at hg; simp at hg
  by_cases a4 : b0 / 16 = 14 ∧ (1 < n ∧ b1 / 64 = 2) ∧ 2 < n ∧ b2 / 64 = 2
  · by_cases a5 : b0 % 16 * 4096 + b1 % 64 * 64 + b2 % 64 ≥ 2048 ∧ (b0 % 16 * 4096 + b1 % 64 * 64 + b2 % 64 < 55296 ∨ 57344 ≤ b0 % 16 * 4096 + b1 % 64 * 64 + b2 % 64 ∧ b0 % 16 * 4096 + b1 % 64 * 64 + b2 % 64 ≤ 1114111)
    · have e : Lib.decodeN n b0 b1 b2 b3 = (b0 % 16 * 4096 + b1 % 64 * 64 + b2 % 64, 3) := by unfold Lib.decodeN; rw [if_neg a1, if_neg a2, if_pos a4, if_pos a5]
      rw [e] at hn h1 h2 ⊢
      obtain rfl := h1 (show 2 ≤ 3 by omega)
      obtain rfl := h2 (Nat.le_refl _)
      have hn' : 3 ≤ n' := hn
      unfold Lib.decodeN
      rw [if_neg a1, if_neg (by omega), if_pos ⟨a4.1, ⟨by omega, a4.2.1.2⟩, by omega, a4.2.2.2⟩, if_pos a5]
    · have e : Lib.decodeN n b0 b1 b2 b3 = (65533, 1) := by unfold Lib.decodeN; rw [if_neg a1, if_neg a2, if_pos a4, if_neg a5]
      rw [e] at hg; simp at hg
  by_cases a6 : b0 / 8 = 30 ∧ (1 < n ∧ b1 / 64 = 2) ∧ (2 < n ∧ b2 / 64 = 2) ∧ 3 < n ∧ b3 / 64 = 2
  · by_cases a7 : b0 % 8 * 262144 + b1 % 64 * 4096 + b2 % 64 * 64 + b3 % 64 ≥ 65536 ∧ (b0 % 8 * 262144 + b1 % 64 * 4096 + b2 % 64 * 64 + b3 % 64 < 55296 ∨ 57344 ≤ b0 % 8 * 262144 + b1 % 64 * 4096 + b2 % 64 * 64 + b3 % 64 ∧ b0 % 8 * 262144 + b1 % 64 * 4096 + b2 % 64 * 64 + b3 % 64 ≤ 1114111)
    · have e : Lib.decodeN n b0 b1 b2 b3 = (b0 % 8 * 262144 + b1 % 64 * 4096 + b2 % 64 * 64 + b3 % 64, 4) := by unfold Lib.decodeN; rw [if_neg a1, if_neg a2, if_neg a4, if_pos a6, if_pos a7]
      rw [e] at hn h1 h2 h3 ⊢
      obtain rfl := h1 (show 2 ≤ 4 by omega)
      obtain rfl := h2 (show 3 ≤ 4 by omega)
      obtain rfl := h3 (Nat.le_refl _)
      have hn' : 4 ≤ n' := hn
      unfold Lib.decodeN
      rw [if_neg a1, if_neg (by omega), if_neg (by omega), if_pos ⟨a6.1, ⟨by omega, a6.2.1.2⟩, ⟨by omega, a6.2.2.1.2⟩, by omega, a6.2.2.2.2⟩, if_pos a7]
    · have e : Lib.decodeN n b0 b1 b2 b3 = (65533, 1) := by unfold Lib.decodeN; rw [if_neg a1, if_neg a2, if_neg a4, if_pos a6, if_neg a7]
      rw [e] at hg; simp at hg
  · have e : Lib.decodeN n b0 b1 b2 b3 = (65533, 1) := by unfold Lib.decodeN; rw [if_neg a1, if_neg a2, if_neg a4, if_neg a6]
    rw [e] at hg; simp at hg
/-- A valid rune. -/
def okR (r : Rn) : Prop := ¬ (r.2.2 = 65533 ∧ r.2.1 = 1)
theorem decode_local (s t : ByteArray) (p q : Nat) (hg : okR (p, wd s p, rn s p)) (hn : q + wd s p ≤ t.size) (hb : ∀ i, i < wd s p → t.get! (q + i) = s.get! (p + i)) : wd t q = wd s p ∧ rn t q = rn s p := by
  have h0 := wd_pos s p
  unfold okR at hg
  simp only at hg
  have key : Utf8.decode t q = Utf8.decode s p := by
    unfold wd rn at *
    rw [Lib.decode_at s p] at *
    rw [Lib.decode_at t q]
    have e0 : (t.get! q).toNat = (s.get! p).toNat := by have := hb 0 (by omega); simp only [Nat.add_zero] at this; rw [this]
    rw [e0]
    exact decodeN_local _ _ _ _ _ _ _ _ _ hg (by omega) (fun h => by rw [hb 1 (by omega)]) (fun h => by rw [hb 2 (by omega)]) (fun h => by rw [hb 3 (by omega)])
  unfold wd rn
  rw [key]
  exact ⟨rfl, rfl⟩
end Go.Proofs.YtmejlldabdjpjaaGreat

/- Plain facts (no program in it): how a text's tokens stand in it; where a fault stands. -/
namespace Go.Proofs.YtmejlldabdjpjaaGreat
open Go.RowKit
/-- A fault's number is none of nought, and it stands in the text. -/
theorem qt_badc (q : UInt8) : ∀ (m : Nat) (l : List UInt8) (i : Nat) (acc : List UInt8), l.length ≤ m → ∀ c o, qt q l i acc = .bad c o → c ≠ 0 ∧ o < i + l.length + 1
  | 0, l, i, acc, hm, c, o, h => by
    have : l = [] := List.eq_nil_of_length_eq_zero (by omega)
    subst this; rw [qt_nil] at h; cases h; exact ⟨by omega, by omega⟩
  | m + 1, [], i, acc, _, c, o, h => by rw [qt_nil] at h; cases h; exact ⟨by omega, by omega⟩
  | m + 1, x :: t, i, acc, hm, c, o, h => by
    simp only [List.length_cons] at hm ⊢
    rw [qt] at h
    split at h
    · cases h; exact ⟨by omega, by omega⟩
    · split at h
      · split at h
        · cases h; exact ⟨by omega, by omega⟩
        · cases h
      · split at h
        · split at h
          · cases h; exact ⟨by omega, by omega⟩
          · split at h
            · cases h; exact ⟨by omega, by omega⟩
            · have h2 := (esc_take t).1
              have := qt_badc q m _ _ _ (by rw [List.length_drop]; omega) c o h
              rw [List.length_drop] at this
              exact ⟨this.1, by omega⟩
        · have := qt_badc q m t _ _ (by omega) c o h
          exact ⟨this.1, by omega⟩
/-- In a string a fault stands at the opening quote or at a backslash. -/
theorem qt_bado (q : UInt8) : ∀ (m : Nat) (l : List UInt8) (i : Nat) (acc : List UInt8), l.length ≤ m → ∀ c o, qt q l i acc = .bad c o → o = 0 ∨ o < i + l.length
  | 0, l, i, acc, hm, c, o, h => by
    have : l = [] := List.eq_nil_of_length_eq_zero (by omega)
    subst this; rw [qt_nil] at h; cases h; exact .inl rfl
  | m + 1, [], i, acc, _, c, o, h => by rw [qt_nil] at h; cases h; exact .inl rfl
  | m + 1, x :: t, i, acc, hm, c, o, h => by
    simp only [List.length_cons] at hm ⊢
    rw [qt] at h
    split at h
    · cases h; exact .inl rfl
    · split at h
      · split at h
        · cases h; exact .inl rfl
        · cases h
      · split at h
        · split at h
          · cases h; exact .inl rfl
          · split at h
            · cases h; right; omega
            · have h2 := (esc_take t).1
              have := qt_bado q m _ _ _ (by rw [List.length_drop]; omega) c o h
              rw [List.length_drop] at this
              omega
        · have := qt_bado q m t _ _ (by omega) c o h
          omega
theorem stp_badc (l : List UInt8) (hl : l ≠ []) (c : Int) (o : Nat) (h : stp l = .bad c o) : c ≠ 0 ∧ o < l.length := by
  have hlen := List.length_pos_iff.2 hl
  unfold stp at h
  split at h
  · cases h
  · split at h
    · cases h
    · split at h
      · split at h
        · cases h; exact ⟨by omega, hlen⟩
        · cases h
      · split at h
        · split at h
          · rename_i hz
            cases h; exact ⟨hz, hlen⟩
          · cases h
        · split at h
          · split at h
            · cases h
            · rename_i hq
              cases h
              have h1 := qt_badc _ _ _ _ _ (Nat.le_refl _) _ _ hq
              have h2 := qt_bado _ _ _ _ _ (Nat.le_refl _) _ _ hq
              rw [List.length_drop] at h2
              exact ⟨h1.1, by omega⟩
          · split at h
            · cases h; exact ⟨by omega, hlen⟩
            · cases h
theorem scn_badc : ∀ (m : Nat) (l : List UInt8) (p : Nat) (acc : List Tok), l.length ≤ m → ∀ c q, scn l p acc = .bad c q → c ≠ 0 ∧ q < p + l.length
  | 0, l, p, acc, hm, c, q, h => by
    have : l = [] := List.eq_nil_of_length_eq_zero (by omega)
    subst this; rw [scn_nil] at h; cases h
  | m + 1, [], p, acc, _, c, q, h => by rw [scn_nil] at h; cases h
  | m + 1, x :: u, p, acc, hm, c, q, h => by
    have hp := stp_pos (x :: u) (by simp)
    cases hs : stp (x :: u) with
    | skip n =>
      rw [scn_skip (by simp) hs] at h
      obtain ⟨h1, h2⟩ := hp.1 n hs
      have := scn_badc m _ _ _ (by rw [List.length_drop]; omega) c q h
      rw [List.length_drop] at this
      exact ⟨this.1, by omega⟩
    | tok k t v n =>
      rw [scn_tok (by simp) hs] at h
      obtain ⟨h1, h2⟩ := hp.2 k t v n hs
      have := scn_badc m _ _ _ (by rw [List.length_drop]; omega) c q h
      rw [List.length_drop] at this
      exact ⟨this.1, by omega⟩
    | bad d o =>
      rw [scn_bad (by simp) hs] at h
      cases h
      have := stp_badc (x :: u) (by simp) c o hs
      exact ⟨this.1, by omega⟩
/-- How a token stands in its text, behind byte a. -/
structure OT (l : List UInt8) (a : Nat) (t : Tok) : Prop where
  lo : a ≤ t.p
  hi : t.p < l.length
  kd : t.k ≠ 6
  tx : t.k ≠ 4 → t.t ≠ [] ∧ t.p + t.t.length ≤ l.length ∧ (l.drop t.p).take t.t.length = t.t
  nm : t.k = 1 → letB (rnL t.t) = true ∧ wordB t.t = false
def nxt (t : Tok) : Nat := if t.k = 4 then t.p + 1 else t.p + t.t.length
def GT (l : List UInt8) : Nat → List Tok → Prop
  | _, [] => False
  | a, t :: r => match r with
    | [] => t.k = 6 ∧ t.t = [] ∧ t.p = l.length ∧ a ≤ l.length
    | _ :: _ => OT l a t ∧ GT l (nxt t) r
theorem GT.ne {l : List UInt8} {a : Nat} {r : List Tok} (h : GT l a r) : r ≠ [] := fun e => by subst e; exact h
theorem rnL_take (l : List UInt8) (n : Nat) (h0 : l ≠ []) (h1 : wdL l ≤ n) (hv : ¬ (rnL l = 65533 ∧ wdL l = 1)) : rnL (l.take n) = rnL l := by
  have hle := wdL_le l h0
  have hpos := wdL_pos l
  have := decode_local ⟨l.toArray⟩ ⟨(l.take n).toArray⟩ 0 0 (by unfold okR; exact hv) (by rw [sz_list, List.length_take]; show 0 + wdL l ≤ _; omega) (fun i hi => by
    rw [get_list, get_list]
    simp only [Nat.zero_add]
    have hi' : i < wdL l := hi
    rw [List.getD_eq_getElem?_getD, List.getD_eq_getElem?_getD, List.getElem?_take_of_lt (by omega)])
  exact this.2
theorem stp_tok (l : List UInt8) (hl : l ≠ []) (k : Int) (t : List UInt8) (v : Int) (n : Nat) (h : stp l = .tok k t v n) :
    k ≠ 6 ∧ (k ≠ 4 → t = l.take n) ∧ (k = 1 → letB (rnL t) = true ∧ wordB t = false) ∧ (1 ≤ k ∧ k ≤ 5) := by
  unfold stp at h
  split at h
  · cases h
  · split at h
    · cases h
    · split at h
      · rename_i hlt
        split at h
        · cases h
        · cases h
          refine ⟨by split <;> omega, fun _ => rfl, fun hk => ?_, by split <;> omega⟩
          have hw : wordB (l.take (spn inNm l)) = false := by
            cases hw : wordB (l.take (spn inNm l))
            · rfl
            · rw [hw] at hk; simp at hk
          have hf : inNm (rnL l) = true := by unfold inNm; rw [hlt]; rfl
          refine ⟨?_, hw⟩
          rw [rnL_take l _ hl (by rw [spn_yes inNm l hl hf]; omega) (fun hc => by
            have := hc.1
            rw [this] at hlt
            exact absurd hlt (by decide))]
          exact hlt
      · split at h
        · split at h
          · cases h
          · cases h; exact ⟨by omega, fun _ => rfl, fun hk => absurd hk (by omega), by omega⟩
        · split at h
          · split at h
            · cases h; exact ⟨by omega, fun hk => absurd rfl hk, fun hk => absurd hk (by omega), by omega⟩
            · cases h
          · split at h
            · cases h
            · cases h; exact ⟨by omega, fun _ => rfl, fun hk => absurd hk (by omega), by omega⟩
theorem scn_GT (l : List UInt8) : ∀ (m p : Nat) (acc : List Tok) (ts : List Tok), l.length - p ≤ m → p ≤ l.length → scn (l.drop p) p acc = .ok ts → ∃ body, ts = acc ++ body ∧ ∀ a, a ≤ p → GT l a body
  | m, p, acc, ts, hm, hp, h => by
    by_cases hlt : p < l.length
    · have hne : l.drop p ≠ [] := fun e => by have := congrArg List.length e; simp at this; omega
      have hpos := stp_pos (l.drop p) hne
      rw [List.length_drop] at hpos
      cases m with
      | zero => omega
      | succ m =>
        cases hs : stp (l.drop p) with
        | skip n =>
          rw [scn_skip hne hs, List.drop_drop] at h
          obtain ⟨h1, h2⟩ := hpos.1 n hs
          obtain ⟨body, e1, e2⟩ := scn_GT l m (p + n) acc ts (by omega) (by omega) h
          exact ⟨body, e1, fun a ha => e2 a (by omega)⟩
        | tok k t v n =>
          rw [scn_tok hne hs, List.drop_drop] at h
          obtain ⟨h1, h2⟩ := hpos.2 k t v n hs
          obtain ⟨body, e1, e2⟩ := scn_GT l m (p + n) _ ts (by omega) (by omega) h
          obtain ⟨k1, k2, k3, k4⟩ := stp_tok (l.drop p) hne k t v n hs
          have hot : ∀ a, a ≤ p → OT l a ⟨k, t, v, p⟩ := fun a ha => {
            lo := ha, hi := hlt, kd := k1
            tx := fun hk => by
              have ht := k2 hk
              have hl : t.length = n := by rw [ht, List.length_take, List.length_drop]; omega
              refine ⟨fun e => ?_, ?_, ?_⟩
              · have e' : t = [] := e
                rw [e'] at hl; simp at hl; omega
              · show p + t.length ≤ _; omega
              · show (l.drop p).take t.length = t; rw [hl, ← ht]
            nm := k3 }
          have hnx : nxt ⟨k, t, v, p⟩ ≤ p + n := by
            unfold nxt
            by_cases hk : k = 4
            · rw [if_pos hk]; show p + 1 ≤ _; omega
            · rw [if_neg hk]
              show p + t.length ≤ _
              rw [k2 hk, List.length_take]; omega
          refine ⟨⟨k, t, v, p⟩ :: body, by rw [e1]; simp, fun a ha => ?_⟩
          have hb := e2 (nxt ⟨k, t, v, p⟩) hnx
          cases body with
          | nil => exact absurd rfl hb.ne
          | cons y z => exact ⟨hot a ha, hb⟩
        | bad d o => rw [scn_bad hne hs] at h; cases h
    · have e : l.drop p = [] := List.drop_of_length_le (by omega)
      rw [e, scn_nil] at h
      cases h
      exact ⟨_, rfl, fun a ha => ⟨rfl, rfl, by show p = _; omega, by omega⟩⟩
theorem scT_ok (l : List UInt8) (h : (scT l).2.1 = 0) : GT l 0 (scT l).1 ∧ ¬ 20000 < l.length ∧ (scT l).2.2 = 0 := by
  unfold scT at h ⊢
  split
  · rename_i hb
    rw [if_pos hb] at h; simp at h
  · rename_i hb
    rw [if_neg hb] at h
    cases hs : scn l 0 [] with
    | ok ts =>
      obtain ⟨body, e1, e2⟩ := scn_GT l _ 0 [] ts (Nat.le_refl _) (Nat.zero_le _) hs
      rw [List.nil_append] at e1
      subst e1
      exact ⟨e2 0 (Nat.le_refl _), hb, rfl⟩
    | bad c q =>
      rw [hs] at h
      have := scn_badc _ l 0 [] (Nat.le_refl _) c q hs
      exact absurd h this.1
end Go.Proofs.YtmejlldabdjpjaaGreat

/- The scanner by steps that the kernel can count (no program in it), and the document's first example. -/
namespace Go.Proofs.YtmejlldabdjpjaaGreat
open Go.RowKit
/-! ### how structs are compared -/
theorem under27 : Tryz.prog.underlying 28 = some (.struct (Tryz.prog.fieldsOf 28)) := by kernel_rfl
theorem stood27 : Tryz.prog.stoodInHeld 28 = false := by kernel_rfl
theorem eql27 (a b c d : Int) (W : World) : (binOp .eql 28 (.agg #[.int .i64 a, .int .i64 b]) (.agg #[.int .i64 c, .int .i64 d])).run Tryz.prog W = .ok (.bool (decide (a = c ∧ b = d))) W := by
  rw [run_eql_struct, run_equalIn_agg W _ _ _ _ under27 stood27]
  simp [go_sem]
  by_cases h1 : a = c <;> by_cases h2 : b = d <;> simp [h1, h2]
theorem neq27 (a b c d : Int) (W : World) : (binOp .neq 28 (.agg #[.int .i64 a, .int .i64 b]) (.agg #[.int .i64 c, .int .i64 d])).run Tryz.prog W = .ok (.bool (!decide (a = c ∧ b = d))) W := by
  rw [run_neq_struct, run_equalIn_agg W _ _ _ _ under27 stood27]
  simp [go_sem]
  by_cases h1 : a = c <;> by_cases h2 : b = d <;> simp [h1, h2]
end Go.Proofs.YtmejlldabdjpjaaGreat

/- The walk of Parse: a refusal is caught at the face. -/
namespace Go.Proofs.YtmejlldabdjpjaaGreat
open Go.RowKit
/-- chunk's contract. -/
def HC : Prop := ∀ (b m : Nat) (T l : List Tok) (W : World), PS b m T l W → Calls Tryz.prog 32 #[.pointer (some ⟨b, 0, none⟩)] W (PN b m T W (chk l))
theorem GT.ends {l : List UInt8} : ∀ (r : List Tok) (a : Nat), GT l a r → Ends r
  | [], _, h => h.elim
  | [t], _, h => ⟨[], t, rfl, h.1⟩
  | t :: u :: r, a, h => by
    obtain ⟨p, e, h1, h2⟩ := GT.ends (u :: r) _ h.2
    exact ⟨t :: p, e, by rw [h1]; rfl, h2⟩
theorem OT.nxt {l : List UInt8} {a : Nat} {t : Tok} (h : OT l a t) : t.p < nxt t := by
  unfold Go.Proofs.YtmejlldabdjpjaaGreat.nxt
  split
  · omega
  · rename_i hk
    have := List.length_pos_iff.2 (h.tx hk).1
    omega
theorem GT.len {l : List UInt8} : ∀ (r : List Tok) (a : Nat), GT l a r → r.length + a ≤ l.length + 1
  | [], _, h => h.elim
  | [t], a, h => by have := h.2.2.2; simp; omega
  | t :: u :: r, a, h => by
    have h1 := GT.len (u :: r) _ h.2
    have h2 := h.1.nxt
    have h3 := h.1.lo
    simp only [List.length_cons] at h1 ⊢
    omega
/-- A tree without anything. -/
def noF : F := one 0 [] 0 0 .nil
/-- What the chunk comes to. -/
def outT : PR → F × Int × Int
  | .ok f _ => (f, 0, 0)
  | .bad p => (noF, 4, p)
  | .out => (noF, 0, 0)
/-- What Parse tells: the tree, a fault's number, its place. -/
def prT (l : List UInt8) : F × Int × Int :=
  if (scT l).2.1 ≠ 0 then (noF, (scT l).2.1, (scT l).2.2) else outT (chk (scT l).1)
theorem PS.make {w : World} {v : Value} {ts : List Tok} {b base : Nat} (own : w.ownsRow base 86 4 v ts.length (cellsT ts)) (hp : Bx b 83 #[v, .int .i64 0] w) (hlt : ∀ g, v.ownBlock = some g → g < b) (ends : Ends ts) (small : ts.length ≤ 20001) : PS b (b + 1) ts ts w := by
  have hb := hp.lt
  rcases own.2 with ⟨rfl, h0⟩ | ⟨g, cap, cur, rfl, h2, h3, r1, r2, r3, r4⟩
  · exact absurd (List.eq_nil_of_length_eq_zero h0) ends.ne
  · have hg := hlt g rfl
    refine ⟨⟨g, cap, hp.c 0 _ rfl, by omega, by omega, fun j u hu => ?_⟩, ⟨0, hp.c 1 _ rfl, rfl, by simp⟩, hp.f 1, ⟨by omega, by omega⟩, ends, small⟩
    rw [cell_of_row w g j cur 86 (0, 0) h3]
    rw [← r4] at hu
    rw [List.getElem?_take] at hu
    split at hu
    · simpa using hu
    · cases hu
theorem pa_yes (v : Value) (w : World) : (Instr.typeAssert (.iface 80 v) 20 80 true).run Tryz.prog w = .ok (.tuple #[v, .bool true]) w := by
  have hu := Tryz.underlying80
  unfold Instr.typeAssert
  simp_all [run_underlying hu, go_sem, Result.andThen]
theorem pa_nil (w : World) : (Instr.typeAssert .nilIface 20 80 true).run Tryz.prog w = .ok (.tuple #[.agg #[.int .i64 0, .int .i64 0], .bool false]) w := by
  have hu := Tryz.underlying80
  have hz : ∀ w, (zeroValue 80).run Tryz.prog w = .ok (.agg #[.int .i64 0, .int .i64 0]) w := fun w => by kernel_rfl
  unfold Instr.typeAssert
  simp_all [run_underlying hu, go_sem, Result.andThen]
set_option maxHeartbeats 2000000 in
theorem pcatch_idle (a : Nat) (w : World) :
    CallsD Tryz.prog 31 #[.pointer (some ⟨a, 0, none⟩), .pointer (some ⟨a + 1, 0, none⟩)] .returning w fun e u' w' => e = .returned (.tuple #[]) ∧ u' = .returning ∧ Below w.heap.size w w' := by
  have hta := pa_nil
  refine callsD_of_wpS Tryz.func31 rfl fun c₀ cs hu => ?_
  apply wpS_seq
  apply wpS_region
  simp [wpOpsS, go_sem, recoverD, hu, Tryz.ntmps31, Exit.thenS, hta]
  refine wpS_of_wp ?_
  change Code.wp Tryz.prog _ _ ⟨#[.pointer (some ⟨a, 0, none⟩), .pointer (some ⟨a + 1, 0, none⟩), .pointer (some ⟨w.heap.size, 0, none⟩), .bool false, .tuple #[.agg #[.int .i64 0, .int .i64 0], .bool false], .nilIface, .tuple #[.agg #[.int .i64 0, .int .i64 0], .bool false], .agg #[.int .i64 0, .int .i64 0], .bool false, undef, undef, undef], []⟩ _
  go_wp2
  refine ⟨rfl, .returning, by cases c₀; simp_all, .tuple #[], by simp [results, Tryz.results31, go_sem], rfl, rfl, (Below.refl _ _).alloc (Nat.le_refl _) _⟩
theorem arr12 (p0 p1 v2 v3 v4 v5 v6 v7 v8 : Value) : #[p0, p1] ++ (((((((Array.replicate 10 undef).setIfInBounds 3 v5).setIfInBounds 4 v6).setIfInBounds 2 v4).setIfInBounds 5 v7).setIfInBounds 6 v8).setIfInBounds 0 v2).setIfInBounds 1 v3 = #[p0, p1, v2, v3, v4, v5, v6, v7, v8, undef, undef, undef] := by kernel_rfl
set_option maxHeartbeats 4000000 in
theorem pcatch_panicking (a : Nat) (c x : Int) (older : List PanicEntry) (w : World) {u0 u1 u2 u3 u4 f0 f1 : Value} (h0 : Bx a 42 #[u0, u1, u2, u3, u4] w) (h1 : Bx (a + 1) 28 #[f0, f1] w) :
    CallsD Tryz.prog 31 #[.pointer (some ⟨a, 0, none⟩), .pointer (some ⟨a + 1, 0, none⟩)] (.panicking ({ v := .iface 80 (.agg #[.int .i64 c, .int .i64 x]), recovered := false } :: older)) w fun e u' w' =>
      e = .returned (.tuple #[]) ∧ u' = .panicking ({ v := .iface 80 (.agg #[.int .i64 c, .int .i64 x]), recovered := true } :: older) ∧ Bx a 42 #[.int .i64 0, .string ⟨#[]⟩, .int .i64 0, .int .i64 0, .slice none 0 0] w' ∧ Bx (a + 1) 28 #[.int .i64 c, .int .i64 x] w' ∧ Below a w w' := by
  have hta := pa_yes
  have hlt := h1.lt
  obtain ⟨g0, g1, g2, g3, g4⟩ := h0.fiveA
  obtain ⟨k0, k1, k2, k3, k4⟩ := h0.frozen5A
  have e0 := fun o => (h1.alloc o).c 0 _ rfl
  have e1 := fun o => (h1.alloc o).c 1 _ rfl
  have l0 := fun o => (h1.alloc o).f 0
  have l1 := fun o => (h1.alloc o).f 1
  refine callsD_of_wpS Tryz.func31 rfl fun c₀ cs hu => ?_
  apply wpS_seq
  apply wpS_region
  simp [wpOpsS, go_sem, recoverD, hu, Tryz.ntmps31, Exit.thenS, hta]
  refine wpS_of_wp ?_
  rw [arr12]
  go_wp2
  go_region
  all_goals
    refine ⟨rfl, .panicking ({ v := .iface 80 (.agg #[.int .i64 c, .int .i64 x]), recovered := true } :: older), by cases c₀; simp_all, .tuple #[], by simp [results, Tryz.results31, go_sem], rfl, rfl, ?_⟩
    exact ⟨(((((h0.alloc _).five_put _ _ _ _ _).set (by omega) _).set (by omega) _).drew), ((((h1.alloc _).five_set (by omega) _ _ _ _ _).put (j := 0) _).put (j := 1) _).drew, (((((((((Below.refl a w).alloc (by omega) _).setCell (Nat.le_refl _) _).setCell (Nat.le_refl _) _).setCell (Nat.le_refl _) _).setCell (Nat.le_refl _) _).setCell (Nat.le_refl _) _).setCell (Nat.le_succ _) _).setCell (Nat.le_succ _) _).drew⟩
set_option maxHeartbeats 4000000 in
theorem fin9 {Post : Ending → World → Prop} {W : World} {a : Nat} {k n p : Int} {t : ByteArray} {sa : Option Addr} {sl sc : Nat} {c x : Int} {x0 x1 x4 x5 x6 x7 x8 x9 x10 x11 x12 x13 x14 x15 x16 x17 x18 x19 x20 : Value} (h0 : Bx a 42 #[.int .i64 k, .string t, .int .i64 n, .int .i64 p, .slice sa sl sc] W) (h1 : Bx (a + 1) 28 #[.int .i64 c, .int .i64 x] W)
    (h : Post (.returned (.tuple #[.agg #[.int .i64 k, .string t, .int .i64 n, .int .i64 p, .slice sa sl sc], .agg #[.int .i64 c, .int .i64 x]])) W) :
    bodyPostD Tryz.prog Tryz.f15 Post Exit.ret ⟨#[x0, x1, .pointer (some ⟨a, 0, none⟩), .pointer (some ⟨a + 1, 0, none⟩), x4, x5, x6, x7, x8, x9, x10, x11, x12, x13, x14, x15, x16, x17, x18, x19, x20], []⟩ W := by
  obtain ⟨z0, z1, z2, z3, z4⟩ := h0.five
  have y0 := h1.c 0 _ rfl
  have y1 := h1.c 1 _ rfl
  simp [bodyPostD, Leaves, results, Tryz.results15, go_sem, z0, z1, z2, z3, z4, y0, y1]
  exact h
set_option maxHeartbeats 4000000 in
theorem Parse_fault (s : ByteArray) (w : World) (hs : s.size ≤ 9223372036854775807) (ts : List Tok) (c x : Int) (hsc : scT s.data.toList = (ts, c, x)) (hc : ¬ c = 0) :
    Calls Tryz.prog 15 #[.string s] w fun e W' => e = .returned (.tuple #[(.agg #[.int .i64 (0), .string ⟨#[]⟩, .int .i64 (0), .int .i64 (0), .slice none 0 0]), .agg #[.int .i64 c, .int .i64 x]]) ∧ Below w.heap.size w W' := by
  have hmf : ∀ (fn : Fn) (first cap : Array Value) (w : World), (Instr.makeFunc fn first cap).run Tryz.prog w = .ok (.func fn first cap) w := fun _ _ _ _ => rfl
  have CS := Scan_any s ((w.alloc (.cells #[.int .i64 0, .string ⟨#[]⟩, .int .i64 0, .int .i64 0, .slice none 0 0] 42)).alloc (.cells #[.int .i64 0, .int .i64 0] 28)) hs
  rw [hsc] at CS
  have hnq : ∀ W, (binOp .neq 28 (.agg #[.int .i64 c, .int .i64 x]) (.agg #[.int .i64 0, .int .i64 0])).run Tryz.prog W = .ok (.bool true) W := fun W => by rw [neq27]; simp [hc]
  have B0 := (Bx.new w 42 #[.int .i64 0, .string ⟨#[]⟩, .int .i64 0, .int .i64 0, .slice none 0 0]).alloc (.cells #[.int .i64 0, .int .i64 0] 28)
  have B1 := Bx.new (w.alloc (.cells #[.int .i64 0, .string ⟨#[]⟩, .int .i64 0, .int .i64 0, .slice none 0 0] 42)) 28 #[.int .i64 0, .int .i64 0]
  have e1 : (w.alloc (.cells #[.int .i64 0, .string ⟨#[]⟩, .int .i64 0, .int .i64 0, .slice none 0 0] 42)).heap.size = w.heap.size + 1 := by simp
  rw [e1] at B1
  have K0 : Below w.heap.size w ((w.alloc (.cells #[.int .i64 0, .string ⟨#[]⟩, .int .i64 0, .int .i64 0, .slice none 0 0] 42)).alloc (.cells #[.int .i64 0, .int .i64 0] 28)) := ((Below.refl _ w).alloc (Nat.le_refl _) _).alloc (by simp) _
  clear e1
  go_enter_defers Tryz.func15, Tryz.ntmps15
  go_wp2_with (go_at_call 30; refine CS.mono ?_; rintro e w1 ⟨v, rfl, hown, hB⟩; have C0 := B0.below hB; have C1 := B1.below hB; have KB := K0.trans (hB.mono K0.size); obtain ⟨av, cv, rfl⟩ := slice_shape hown; obtain ⟨q0, q1, q2, q3, q4⟩ := C0.five; obtain ⟨f0, f1, f2, f3, f4⟩ := C0.frozen5; have r0 := C1.c 0 _ rfl; have r1 := C1.c 1 _ rfl; have g0 := C1.f 0; have g1 := C1.f 1; clear hown hB)
  go_region
  all_goals
    go_wp2
    have D0 := ((((C0.set (b := w.heap.size + 1) (o := 0) (by omega) (.int .i64 c)).set (b := w.heap.size + 1) (o := 1) (by omega) (.int .i64 x)).five_put (.int .i64 0) (.string ⟨#[]⟩) (.int .i64 0) (.int .i64 0) (.slice none 0 0)).set (b := w.heap.size + 1) (o := 0) (by omega) (.int .i64 c)).set (b := w.heap.size + 1) (o := 1) (by omega) (.int .i64 x)
    have D1 := ((((C1.put (j := 0) (.int .i64 c)).put (j := 1) (.int .i64 x)).five_set (Y := w.heap.size) (by omega) (.int .i64 0) (.string ⟨#[]⟩) (.int .i64 0) (.int .i64 0) (.slice none 0 0)).put (j := 0) (.int .i64 c)).put (j := 1) (.int .i64 x)
    have K9 := ((((((((((KB.setCell (p := ⟨w.heap.size + 1, 0, none⟩) (Nat.le_succ _) (.int .i64 c)).setCell (p := ⟨w.heap.size + 1, 1, none⟩) (Nat.le_succ _) (.int .i64 x)).setCell (p := ⟨w.heap.size, 0, none⟩) (Nat.le_refl _) (.int .i64 0)).setCell (p := ⟨w.heap.size, 1, none⟩) (Nat.le_refl _) (.string ⟨#[]⟩)).setCell (p := ⟨w.heap.size, 2, none⟩) (Nat.le_refl _) (.int .i64 0)).setCell (p := ⟨w.heap.size, 3, none⟩) (Nat.le_refl _) (.int .i64 0)).setCell (p := ⟨w.heap.size, 4, none⟩) (Nat.le_refl _) (.slice none 0 0)).setCell (p := ⟨w.heap.size + 1, 0, none⟩) (Nat.le_succ _) (.int .i64 c)).setCell (p := ⟨w.heap.size + 1, 1, none⟩) (Nat.le_succ _) (.int .i64 x))).drew
    have D2 := D0.drew
    have D3 := D1.drew
    generalize World.drew _ = W3 at D2 D3 K9 ⊢
    exact fin9 D2 D3 ⟨rfl, K9⟩
set_option maxRecDepth 20000 in
set_option maxHeartbeats 8000000 in
theorem Parse_go (HC0 : HC) (s : ByteArray) (w : World) (hs : s.size ≤ 9223372036854775807) (ts : List Tok) (hsc : scT s.data.toList = (ts, 0, 0)) (ends : Ends ts) (small : ts.length ≤ 20001) (R : PR) (hR : chk ts = R) (hno : R ≠ .out) :
    Calls Tryz.prog 15 #[.string s] w fun e W' => ∃ k t n p a c ks cd x, e = .returned (.tuple #[(.agg #[.int .i64 (k), .string ⟨(t).toArray⟩, .int .i64 (n), .int .i64 (p), .slice a ks.len c]), .agg #[.int .i64 cd, .int .i64 x]]) ∧ (one k t n p ks, cd, x) = outT R ∧ TN 42 W' (fun g => w.heap.size ≤ g) k t n p (.slice a ks.len c) ks ∧ Below w.heap.size w W' := by
  have hmf : ∀ (fn : Fn) (first cap : Array Value) (w : World), (Instr.makeFunc fn first cap).run Tryz.prog w = .ok (.func fn first cap) w := fun _ _ _ _ => rfl
  have CS := Scan_any s ((w.alloc (.cells #[.int .i64 0, .string ⟨#[]⟩, .int .i64 0, .int .i64 0, .slice none 0 0] 42)).alloc (.cells #[.int .i64 0, .int .i64 0] 28)) hs
  rw [hsc] at CS
  have hnq : ∀ W, (binOp .neq 28 (.agg #[.int .i64 0, .int .i64 0]) (.agg #[.int .i64 0, .int .i64 0])).run Tryz.prog W = .ok (.bool false) W := fun W => by rw [neq27]; simp
  have B0 := (Bx.new w 42 #[.int .i64 0, .string ⟨#[]⟩, .int .i64 0, .int .i64 0, .slice none 0 0]).alloc (.cells #[.int .i64 0, .int .i64 0] 28)
  have B1 := Bx.new (w.alloc (.cells #[.int .i64 0, .string ⟨#[]⟩, .int .i64 0, .int .i64 0, .slice none 0 0] 42)) 28 #[.int .i64 0, .int .i64 0]
  have e1 : (w.alloc (.cells #[.int .i64 0, .string ⟨#[]⟩, .int .i64 0, .int .i64 0, .slice none 0 0] 42)).heap.size = w.heap.size + 1 := by simp
  have e2 : ((w.alloc (.cells #[.int .i64 0, .string ⟨#[]⟩, .int .i64 0, .int .i64 0, .slice none 0 0] 42)).alloc (.cells #[.int .i64 0, .int .i64 0] 28)).heap.size = w.heap.size + 2 := by simp
  rw [e1] at B1
  have K0 : Below w.heap.size w ((w.alloc (.cells #[.int .i64 0, .string ⟨#[]⟩, .int .i64 0, .int .i64 0, .slice none 0 0] 42)).alloc (.cells #[.int .i64 0, .int .i64 0] 28)) := ((Below.refl _ w).alloc (Nat.le_refl _) _).alloc (by simp) _
  rw [e2] at CS
  have HE2 : Hid (((w.alloc (.cells #[.int .i64 0, .string ⟨#[]⟩, .int .i64 0, .int .i64 0, .slice none 0 0] 42)).alloc (.cells #[.int .i64 0, .int .i64 0] 28)).heap.size = w.heap.size + 2) := e2
  clear e1 e2
  go_enter_defers Tryz.func15, Tryz.ntmps15
  go_wp2_with (go_at_call 30; refine CS.mono ?_; rintro e w1 ⟨v, rfl, hown, hB⟩; rw [← HE2.out] at hB; have C0 := B0.below hB; have C1 := B1.below hB; have KB := K0.trans (hB.mono K0.size); have hz1 : w.heap.size + 2 ≤ w1.heap.size := (by have := hB.size; have := HE2.out; omega); obtain ⟨av, cv, rfl⟩ := slice_shape hown; obtain ⟨q0, q1, q2, q3, q4⟩ := C0.five; obtain ⟨f0, f1, f2, f3, f4⟩ := C0.frozen5; have r0 := C1.c 0 _ rfl; have r1 := C1.c 1 _ rfl; have g0 := C1.f 0; have g1 := C1.f 1)
  have C2 := (C0.set (b := w.heap.size + 1) (o := 0) (by omega) (.int .i64 0)).set (b := w.heap.size + 1) (o := 1) (by omega) (.int .i64 0)
  have C3 := (C1.put (j := 0) (.int .i64 0)).put (j := 1) (.int .i64 0)
  have hw2 : ((w1.setCell ⟨w.heap.size + 1, 0, none⟩ (.int .i64 0)).setCell ⟨w.heap.size + 1, 1, none⟩ (.int .i64 0)).ownsRow (w.heap.size + 2) 86 4 (.slice av ts.length cv) ts.length (cellsT ts) := ownsRow_setCell_below (ownsRow_setCell_below hown (by show w.heap.size + 1 < _; omega) _) (by show w.heap.size + 1 < _; omega) _
  have hKK : Below w.heap.size w ((w1.setCell ⟨w.heap.size + 1, 0, none⟩ (.int .i64 0)).setCell ⟨w.heap.size + 1, 1, none⟩ (.int .i64 0)) := (KB.setCell (Nat.le_succ _) _).setCell (Nat.le_succ _) _
  have hzs : ((w1.setCell ⟨w.heap.size + 1, 0, none⟩ (.int .i64 0)).setCell ⟨w.heap.size + 1, 1, none⟩ (.int .i64 0)).heap.size = w1.heap.size := by simp
  obtain ⟨W2, hW2⟩ : ∃ W2, (w1.setCell ⟨w.heap.size + 1, 0, none⟩ (.int .i64 0)).setCell ⟨w.heap.size + 1, 1, none⟩ (.int .i64 0) = W2 := ⟨_, rfl⟩
  rw [hW2] at C2 C3 hw2 hKK hzs ⊢
  have B5 := Bx.new W2 83 #[.slice av ts.length cv, .int .i64 0]
  rw [hzs] at B5
  have P5 := PS.make (own_below hw2 ((Below.refl _ W2).alloc (Nat.le_refl _) (.cells #[.slice av ts.length cv, .int .i64 0] 83))) B5 (fun g e => by have := (hw2.lt g e).2; omega) ends small
  have CC5 := HC0 _ _ ts ts _ P5
  rw [hR] at CC5
  have C4 := C2.alloc (.cells #[.slice av ts.length cv, .int .i64 0] 83)
  have C5 := C3.alloc (.cells #[.slice av ts.length cv, .int .i64 0] 83)
  have hK5 := hKK.alloc (by have := hKK.size; omega) (.cells #[.slice av ts.length cv, .int .i64 0] 83)
  obtain ⟨W5, hW5⟩ : ∃ W5, W2.alloc (.cells #[.slice av ts.length cv, .int .i64 0] 83) = W5 := ⟨_, rfl⟩
  rw [hW5] at CC5 C4 C5 hK5 ⊢
  clear C0 C1 C2 C3 KB hown hB hw2 hKK B5 P5 q0 q1 q2 q3 q4 f0 f1 f2 f3 f4 r0 r1 g0 g1 CS B0 B1 K0 HE2 hW2 hW5 hzs
  refine CC5.mono ?_
  cases R with
  | out => exact absurd rfl hno
  | bad p =>
    rintro e w6 ⟨he, hk6⟩
    unfold refp at he
    subst he
    have D0 := C4.ky hk6 (by omega)
    have D1 := C5.ky hk6 (by omega)
    have hK6 : Below w.heap.size w w6 := hK5.trans ⟨hk6.os, hk6.tape, hk6.output, hk6.size, fun g hg => hk6.block g (by have := hK5.size; omega) (by omega)⟩
    go_wp2
    refine leaves_cons (f := 31) (args := #[.pointer (some ⟨w.heap.size, 0, none⟩), .pointer (some ⟨w.heap.size + 1, 0, none⟩)]) (by simp) (by simp [go_sem]) ?_
    refine (pcatch_panicking w.heap.size 4 p [] w6 D0 D1).mono ?_
    rintro e u' w7 ⟨rfl, rfl, E0, E1, hB7⟩
    obtain ⟨z0, z1, z2, z3, z4⟩ := E0.five
    have y0 := E1.c 0 _ rfl
    have y1 := E1.c 1 _ rfl
    simp [Leaves, settle, results, Tryz.results15, go_sem, z0, z1, z2, z3, z4, y0, y1, outT]
    exact ⟨0, [], 0, 0, none, 0, .nil, 4, p, ⟨⟨rfl, rfl, rfl, rfl, rfl, rfl, rfl⟩, rfl, rfl⟩, ⟨rfl, rfl, rfl⟩, TN.leaf _ _ _ _ _ _ _, hK6.trans hB7⟩
  | ok f l =>
    rintro e w6 ⟨k, tt, n, p, a1, c1, ks, rfl, rfl, hTN, hTk⟩
    have D0 := C4.ky hTk.ky (by omega)
    have D1 := C5.ky hTk.ky (by omega)
    have hz5 : W5.heap.size ≤ w6.heap.size := hTk.ky.size
    have hz4 := C5.lt
    have hK6 : Below w.heap.size w w6 := hK5.trans ⟨hTk.ky.os, hTk.ky.tape, hTk.ky.output, hTk.ky.size, fun g hg => hTk.ky.block g (by have := hK5.size; omega) (by omega)⟩
    obtain ⟨q0, q1, q2, q3, q4⟩ := D0.five
    obtain ⟨f0, f1, f2, f3, f4⟩ := D0.frozen5
    have r0 := D1.c 0 _ rfl
    have r1 := D1.c 1 _ rfl
    have g0 := D1.f 0
    have g1 := D1.f 1
    go_wp2
    have E0 := ((D0.five_put (.int .i64 k) (.string ⟨tt.toArray⟩) (.int .i64 n) (.int .i64 p) (.slice a1 ks.len c1)).set (b := w.heap.size + 1) (o := 0) (by omega) (.int .i64 0)).set (b := w.heap.size + 1) (o := 1) (by omega) (.int .i64 0)
    have E1 := ((D1.five_set (Y := w.heap.size) (by omega) (.int .i64 k) (.string ⟨tt.toArray⟩) (.int .i64 n) (.int .i64 p) (.slice a1 ks.len c1)).put (j := 0) (.int .i64 0)).put (j := 1) (.int .i64 0)
    have K9 := ((((((hK6.setCell (p := ⟨w.heap.size, 0, none⟩) (Nat.le_refl _) (.int .i64 k)).setCell (p := ⟨w.heap.size, 1, none⟩) (Nat.le_refl _) (.string ⟨tt.toArray⟩)).setCell (p := ⟨w.heap.size, 2, none⟩) (Nat.le_refl _) (.int .i64 n)).setCell (p := ⟨w.heap.size, 3, none⟩) (Nat.le_refl _) (.int .i64 p)).setCell (p := ⟨w.heap.size, 4, none⟩) (Nat.le_refl _) (.slice a1 ks.len c1)).setCell (p := ⟨w.heap.size + 1, 0, none⟩) (Nat.le_succ _) (.int .i64 0)).setCell (p := ⟨w.heap.size + 1, 1, none⟩) (Nat.le_succ _) (.int .i64 0)
    have hT6 := ((hTN.five (X := w.heap.size) (by omega) (.int .i64 k) (.string ⟨tt.toArray⟩) (.int .i64 n) (.int .i64 p) (.slice a1 ks.len c1)).set (X := w.heap.size + 1) (o := 0) (by omega) (.int .i64 0)).set (X := w.heap.size + 1) (o := 1) (by omega) (.int .i64 0)
    obtain ⟨W7, hW7⟩ : ∃ W7, ((((((w6.setCell ⟨w.heap.size, 0, none⟩ (.int .i64 k)).setCell ⟨w.heap.size, 1, none⟩ (.string ⟨tt.toArray⟩)).setCell ⟨w.heap.size, 2, none⟩ (.int .i64 n)).setCell ⟨w.heap.size, 3, none⟩ (.int .i64 p)).setCell ⟨w.heap.size, 4, none⟩ (.slice a1 ks.len c1)).setCell ⟨w.heap.size + 1, 0, none⟩ (.int .i64 0)).setCell ⟨w.heap.size + 1, 1, none⟩ (.int .i64 0) = W7 := ⟨_, rfl⟩
    rw [hW7] at E0 E1 K9 hT6 ⊢
    clear hW7 q0 q1 q2 q3 q4 f0 f1 f2 f3 f4 r0 r1 g0 g1 D0 D1
    refine leaves_cons (f := 31) (args := #[.pointer (some ⟨w.heap.size, 0, none⟩), .pointer (some ⟨w.heap.size + 1, 0, none⟩)]) (by simp) (by simp [go_sem]) ?_
    refine (pcatch_idle w.heap.size W7).mono ?_
    rintro e u' w8 ⟨rfl, rfl, hB8⟩
    obtain ⟨z0, z1, z2, z3, z4⟩ := (E0.below hB8).five
    have y0 := (E1.below hB8).c 0 _ rfl
    have y1 := (E1.below hB8).c 1 _ rfl
    refine ⟨.tuple #[(.agg #[.int .i64 (k), .string ⟨(tt).toArray⟩, .int .i64 (n), .int .i64 (p), .slice a1 ks.len c1]), .agg #[.int .i64 0, .int .i64 0]], by simp [results, Tryz.results15, go_sem, z0, z1, z2, z3, z4, y0, y1], ?_⟩
    exact ⟨k, tt, n, p, a1, c1, ks, 0, 0, rfl, rfl, (hT6.below hB8).mono (fun g hg _ => by omega), K9.trans (hB8.mono K9.size)⟩
/-- Parse, whole. -/
theorem Parse_any (HC0 : HC) (s : ByteArray) (w : World) (hs : s.size ≤ 9223372036854775807) :
    Calls Tryz.prog 15 #[.string s] w fun e W' => ∃ k t n p a c ks, e = .returned (.tuple #[(.agg #[.int .i64 (k), .string ⟨(t).toArray⟩, .int .i64 (n), .int .i64 (p), .slice a ks.len c]), .agg #[.int .i64 (prT s.data.toList).2.1, .int .i64 (prT s.data.toList).2.2]]) ∧ (prT s.data.toList).1 = one k t n p ks ∧ TN 42 W' (fun g => w.heap.size ≤ g) k t n p (.slice a ks.len c) ks ∧ Below w.heap.size w W' := by
  obtain ⟨⟨ts, cd, x⟩, hsc⟩ : ∃ r, scT s.data.toList = r := ⟨_, rfl⟩
  by_cases hc : cd = 0
  · subst hc
    obtain ⟨h1, h2, h3⟩ := scT_ok s.data.toList (by rw [hsc])
    rw [hsc] at h1 h3
    simp only at h1 h3
    subst h3
    have hl := GT.len _ _ h1
    rw [scT_len] at h2 hl
    have hno := chk_some ts
    refine (Parse_go HC0 s w hs ts hsc (GT.ends _ _ h1) (by omega) _ rfl hno).mono fun e W' ⟨k, t, n, p, a, c, ks, cd, x, he, hq, hT, hB⟩ => ?_
    have : prT s.data.toList = (one k t n p ks, cd, x) := by
      unfold prT
      rw [hsc, hq]
      simp
    rw [this]
    exact ⟨k, t, n, p, a, c, ks, he, rfl, hT, hB⟩
  · refine (Parse_fault s w hs ts cd x hsc hc).mono fun e W' ⟨he, hB⟩ => ?_
    have : prT s.data.toList = (noF, cd, x) := by
      unfold prT
      rw [hsc]
      simp only [ne_eq]
      rw [if_pos hc]
    rw [this]
    exact ⟨0, [], 0, 0, none, 0, .nil, he, rfl, TN.leaf _ _ _ _ _ _ _, hB⟩
end Go.Proofs.YtmejlldabdjpjaaGreat

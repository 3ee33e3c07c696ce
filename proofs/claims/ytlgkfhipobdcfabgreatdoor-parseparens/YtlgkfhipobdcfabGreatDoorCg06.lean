/- The walk of quoted, the loop itself. -/
import Derived.Test.YtlgkfhipobdcfabGreatDoorCg05
namespace Go.Proofs.YtlgkfhipobdcfabGreatDoor
open Go.RowKit

/-- What a string leaves: its token, or the refusal. -/
def QO (b B : Nat) (s : ByteArray) (ts : List Tok) (V : World) (o : Nat) : QR → Ending → World → Prop
  | .ok v n, e, W' => e = .returned (.int .i64 ((o + n : Nat) : Int)) ∧ SC b B s (ts ++ [⟨4, v, 0, o⟩]) W' ∧ Kp b B V W'
  | .bad c x, e, W' => e = refu c ((o + x : Nat) : Int) ∧ Kp b B V W'

theorem strC (x : ByteArray) : Lib.strCells x = Lib.byteCells x.data.toList := rfl
theorem strL (l : List UInt8) : Lib.strCells ⟨l.toArray⟩ = Lib.byteCells l := rfl
theorem own_iterAt {w : World} {base : Nat} {e : TypeId} {size : Nat} {v : Value} {n : Nat} {xs : List Value} (h : w.ownsRow base e size v n xs) {k : Nat} (hk : k < base) (x : ByteArray) (p : Nat) : (w.iterAt k x p).ownsRow base e size v n xs := by
  refine ⟨h.1, ?_⟩
  rcases h.2 with h2 | ⟨g, cap, cur, g1, g2, g3, r⟩
  · exact .inl h2
  · refine .inr ⟨g, cap, cur, g1, g2, ?_, r⟩
    rw [Lib.iterAt_other w k g x p (by omega)]; exact g3

theorem own_app {w : World} {base n : Nat} {v : Value} {acc l : List UInt8} {x : ByteArray} (h : w.ownsRow base 5 1 v n (Lib.byteCells acc ++ Lib.strCells x)) (hn : n = acc.length + x.size) (hx : x.data.toList = l) : w.ownsRow base 5 1 v (acc ++ l).length (Lib.byteCells (acc ++ l)) := by
  subst hx hn
  have e1 : (acc ++ x.data.toList).length = acc.length + x.size := by rw [List.length_append, Array.length_toList]; rfl
  rw [e1, Lib.byteCells_append]
  exact h
theorem grow_keep {V W w1 : World} {v : Value} {n : Nat} {xs : List Value} (hB : Below V.heap.size V W) (hlt : V.heap.size < W.heap.size) (hown : W.ownsRow (V.heap.size + 1) 5 1 v n xs) (hg : W.grownBy w1 v.ownBlock) :
    Below V.heap.size V w1 ∧ w1.heap[V.heap.size]? = W.heap[V.heap.size]? ∧ W.heap.size ≤ w1.heap.size :=
  ⟨hB.grown hg (by omega) (fun k hk => by have := (hown.lt k hk).1; omega), hg.block _ hlt (fun e => by have := (hown.lt _ e.symm).1; omega), hg.size⟩
theorem ext_TA (s : ByteArray) (T a : Nat) : (s.extract T a).data.toList = (LD s T).take (a - T) := by unfold LD; simp

set_option maxRecDepth 20000 in
set_option maxHeartbeats 8000000 in
theorem quoted_any (b B : Nat) (s : ByteArray) (ts : List Tok) (V : World) (h : SC b B s ts V) (o : Nat) (ho : o < s.size) (hs : s.size ≤ 20000) (hts : ts.length ≤ 20000) (q : UInt8) (qn : Nat) (hqn : q.toNat = qn) (hq : qn = 39 ∨ qn = 34) :
    Calls Tryz.prog 49 #[.pointer (some ⟨b, 0, none⟩), .int .i64 o, .int .i32 qn] V fun e W' => QO b B s ts V o (qt q (LD s (o + 1)) 1 []) e W' := by
  obtain ⟨i5, hi5, hy0, hy1, hy2⟩ := info_parts W.Tryz.info5
  have HQ := QI.start s o ho q
  obtain ⟨R, hR⟩ : ∃ R, qt q (LD s (o + 1)) 1 [] = R := ⟨_, rfl⟩
  rw [hR] at HQ ⊢
  have HQ0 : Hid (QI s o 0 (o + 1) q [] R) := HQ
  have HH : Hid (SC b B s ts V) := h
  have hsrc := h.src
  have hbV : b < V.heap.size := by have := h.lt; omega
  obtain ⟨x, hx⟩ : ∃ x, s.extract (o + 1) s.size = x := ⟨_, rfl⟩
  have hxz : x.size = s.size - (o + 1) := by rw [← hx, ByteArray.size_extract]; omega
  have hxr : ∀ p, rn x p = rn s (o + 1 + p) := fun p => by rw [← hx]; exact rn_extract s (o + 1) p
  have hxw : ∀ p, wd x p = wd s (o + 1 + p) := fun p => by rw [← hx]; exact wd_extract s (o + 1) p
  have HXR : Hid (∀ p, rn x p = rn s (o + 1 + p)) := hxr
  have HXW : Hid (∀ p, wd x p = wd s (o + 1 + p)) := hxw
  have HQN : Hid (q.toNat = qn) := hqn
  clear hR HQ h hxr hxw hqn
  go_enter Tryz.func49, Tryz.ntmps49
  go_wp2
  go_loopg [8, 9] (x.size + 1) (fun gf v8 v9 wx => ∃ (pos T : Nat) (acc : List UInt8), pos ≤ x.size ∧ wx.heap[V.heap.size]? = some (.stringIter x pos) ∧ v9 = .int .i64 T ∧ wx.ownsRow (V.heap.size + 1) 5 1 v8 acc.length (Lib.byteCells acc) ∧ Below V.heap.size V wx ∧ Hid (QI s o pos T q acc R) ∧ x.size < pos + gf)
  case atStart => exact ⟨0, o + 1, [], Nat.zero_le _, World.iter_heap V x 0, rfl, World.ownsRow_nil _ _ _ _, (Below.refl _ _).alloc (Nat.le_refl _) _, HQ0, by omega⟩
  case round =>
    obtain ⟨pos, T, acc, hple, hi, rfl, hown, hB, hI, hfu⟩ := hrel
    have hT1 := hI.out.t1
    have hT2 := hI.out.t2
    have hlen := hI.out.len
    obtain ⟨av, cv, rfl⟩ := slice_shape hown
    by_cases hps : pos < x.size
    · obtain ⟨g', rfl⟩ : ∃ g', gk = g' + 1 := ⟨gk - 1, by omega⟩
      have hnx : ∀ ty, (Instr.next (.pointer (some ⟨V.heap.size, 0, none⟩)) true ty).run Tryz.prog wr = .ok (.tuple #[.bool true, .int .i64 pos, .int .i32 (rn x pos)]) (wr.iterAt V.heap.size x (pos + wd x pos)) := fun ty => Lib.run_next_any_at wr V.heap.size x pos ty hi hps
      have hwp := wd_pos x pos
      have hwl := wd_le x pos hps
      have hi2 := Lib.iterAt_heap wr V.heap.size x pos (pos + wd x pos) hi
      have hB2 := Lib.below_iterAt hB (Nat.le_refl _) x (pos + wd x pos)
      have hown2 := own_iterAt hown (Nat.lt_succ_self _) x (pos + wd x pos)
      have hlt := (Array.getElem?_eq_some_iff.1 hi2).1
      obtain ⟨W, hW⟩ : ∃ W, wr.iterAt V.heap.size x (pos + wd x pos) = W := ⟨_, rfl⟩
      rw [hW] at hnx hi2 hB2 hown2 hlt
      obtain ⟨r, hr⟩ : ∃ r, rn x pos = r := ⟨_, rfl⟩
      obtain ⟨wd0, hwd⟩ : ∃ wd0, wd x pos = wd0 := ⟨_, rfl⟩
      have hrs : Hid (rn s (o + 1 + pos) = r) := by show _ = _; rw [← HXR.out, hr]
      have hws : Hid (wd s (o + 1 + pos) = wd0) := by show _ = _; rw [← HXW.out, hwd]
      have hrl : r ≤ 1114111 := by rw [← hr]; exact rn_le x pos
      rw [hr] at hnx
      rw [hwd] at hi2 hwp hwl
      have hsrc2 : W.cell? ⟨b, 0, none⟩ = some (.string s) := (hB2.cell hbV).trans hsrc
      clear hi hB hown hW hr hwd
      by_cases hsk : o + 1 + pos < T
      · obtain ⟨e1, HN⟩ := hI.out.skip hsk
        have HN' : Hid (QI s o (pos + 1) T q acc R) := HN
        have e2 : wd0 = 1 := by rw [← hws.out, e1]
        subst e2
        clear HN e1
        go_wp2
        go_roundg g'
        case measure => omega
        case rel => exact ⟨pos + 1, T, acc, by omega, hi2, rfl, hown2, hB2, HN', by omega⟩
      · obtain ⟨a, haa⟩ : ∃ a, a = o + 1 + pos := ⟨_, rfl⟩
        have hTa : T ≤ a := by omega
        have hal : a < s.size := by omega
        have hra : rn s a = r := by rw [haa]; exact hrs.out
        by_cases hrq : r = qn
        · have hqb := beq_t hrq
          have hR := hI.out.close a haa hTa hal (by rw [HQN.out]; exact hq) (by rw [HQN.out, hra, hrq])
          obtain ⟨sl, hsl⟩ : ∃ sl, acc ++ (LD s T).take (a - T) = sl := ⟨_, rfl⟩
          rw [hsl] at hR
          have hslen : sl.length ≤ 1000000 := by
            rw [← hsl, List.length_append, List.length_take]
            omega
          have HSL : Hid (acc ++ (LD s T).take (a - T) = sl) := hsl
          have HR : Hid (R = if 10000 < sl.length then .bad 14 0 else .ok sl (a - o + 1)) := hR
          have HHB := hB2
          clear hR hsl hra hrq hI hrs hws
          go_wp2_with (at_builtin; refine Lib.wpList_append_own_string _ rfl _ _ 63 9 rfl (V.heap.size + 1) 5 i5 Tryz.underlying63 Tryz.underlying9 hi5 hy0 hy1 hy2 (.slice av acc.length cv) acc.length (Lib.byteCells acc) rfl hown2 _ rfl ?c1 ?c2 ?c3 ?_)
          case c1 => rw [ByteArray.size_extract]; unfold maxLen; omega
          case c2 => rw [ByteArray.size_extract]; omega
          case c3 => omega
          intro v1 w1 ho1 hg1 _
          have hk1 := grow_keep HHB hlt hown2 hg1
          have ho2 := own_app ho1 (by rw [ByteArray.size_extract]) (ext_TA s T _)
          rw [← haa, HSL.out] at ho2
          have hSC1 := HH.out.below hk1.1
          have CA := addString_any b B _ s ts w1 hSC1 o v1 sl ho2 hslen hts
          clear ho1 hg1 hown2
          by_cases hbig : 10000 < sl.length
          · go_wp2_with (go_at_call 75; refine CA.mono ?_; rintro e w2 ⟨hA1, hA2⟩; obtain ⟨he, hk2⟩ := hA1 hbig; unfold refu at he; subst he)
            exact ⟨rfl, by rw [HR.out, if_pos hbig]; exact ⟨rfl, (Kp.of_below hk1.1 HH.out.lt.2).trans hk2⟩⟩
          · go_wp2_with (go_at_call 75; refine CA.mono ?_; rintro e w2 ⟨hA1, hA2⟩; obtain ⟨he, hs2, hk2⟩ := hA2 hbig; subst he)
            go_ret
            rw [HR.out, if_neg hbig]
            exact ⟨ret1 (by omega), hs2, (Kp.of_below hk1.1 HH.out.lt.2).trans hk2⟩
        · have hqb := beq_f hrq
          by_cases h10 : r = 10
          · have h10b := beq_t h10
            have HR : Hid (R = .bad 4 0) := hI.out.nl a haa hTa hal (by rw [hra, h10])
            clear hI hrs hws hra
            go_wp2_with (go_at_call 72; refine (refuse_any _ _ _).mono ?_; rintro e w' ⟨he, rfl⟩; unfold refu at he; subst he)
            exact ⟨rfl, by rw [HR.out]; exact ⟨rfl, Kp.of_below hB2 HH.out.lt.2⟩⟩
          · have h10b := beq_f h10
            by_cases h92 : r = 92
            · have h92b := beq_t h92
              obtain ⟨e1, E1, E2, E3⟩ := hI.out.esc a haa hTa hal (by rw [HQN.out]; exact hq) (by rw [hra, h92])
              have e2 : wd0 = 1 := by rw [← hws.out, ← haa]; exact e1
              subst e2
              have HE1 : Hid _ := E1
              have HE2 : Hid _ := E2
              have HE3 : Hid _ := E3
              have htk := esc_take (LD s (a + 1))
              have hel := esc_le (LD s (a + 1))
              rw [LD_len] at htk
              have htk1 := htk.1
              clear E1 E2 E3 htk hra hI hrs hws e1
              go_wp2_with (at_builtin; refine Lib.wpList_append_own_string _ rfl _ _ 63 9 rfl (V.heap.size + 1) 5 i5 Tryz.underlying63 Tryz.underlying9 hi5 hy0 hy1 hy2 (.slice av acc.length cv) acc.length (Lib.byteCells acc) rfl hown2 _ rfl ?c1 ?c2 ?c3 ?_)
              case c1 => rw [ByteArray.size_extract]; unfold maxLen; omega
              case c2 => rw [ByteArray.size_extract]; omega
              case c3 => omega
              intro v1 w1 ho1 hg1 _
              have hk1 := grow_keep hB2 hlt hown2 hg1
              have ho2 := own_app ho1 (by rw [ByteArray.size_extract]) (ext_TA s T _)
              rw [← haa] at ho2
              have hi3 : w1.heap[V.heap.size]? = some (.stringIter x (pos + 1)) := hk1.2.1.trans hi2
              have hsrc3 : w1.cell? ⟨b, 0, none⟩ = some (.string s) := (hk1.1.cell hbV).trans hsrc
              have hlt3 : V.heap.size < w1.heap.size := by omega
              have CE := escape_any b s w1 hsrc3 o a hal hs
              have ea : (a : Int) = (o : Int) + 1 + pos := by omega
              rw [ea] at CE
              obtain ⟨sl, hsl⟩ : ∃ sl, acc ++ (LD s T).take (a - T) = sl := ⟨_, rfl⟩
              have hslen : sl.length ≤ 1000000 := by
                rw [← hsl, List.length_append, List.length_take]
                omega
              rw [hsl] at ho2
              have HSL : Hid (acc ++ (LD s T).take (a - T) = sl) := hsl
              obtain ⟨hB3, _, _⟩ := hk1
              obtain ⟨a1, c1, rfl⟩ := slice_shape ho2
              have HEA : Hid ((a : Int) = (o : Int) + 1 + pos) := ea
              clear ho1 hg1 hown2 hi2 hB2 hsrc2 hsl ea
              by_cases hL : LD s (a + 1) = []
              · go_wp2_with (go_at_call 76; refine CE.mono ?_; rintro e w2 ⟨hb2, hA1, hA2, hA3⟩; have he := hA1 hL; unfold refu at he; subst he)
                exact ⟨rfl, by rw [HE1.out hL]; exact ⟨rfl, (Kp.of_below (hB3.trans (hb2.mono (Nat.le_of_lt hlt3))) HH.out.lt.2)⟩⟩
              · by_cases hz : (esc (LD s (a + 1))).2 = 0
                · go_wp2_with (go_at_call 76; refine CE.mono ?_; rintro e w2 ⟨hb2, hA1, hA2, hA3⟩; have he := hA2 hL hz; unfold refu at he; subst he)
                  refine ⟨rfl, ?_⟩
                  rw [HE2.out hL hz]
                  refine ⟨?_, Kp.of_below (hB3.trans (hb2.mono (Nat.le_of_lt hlt3))) HH.out.lt.2⟩
                  have e5 : o + (a - o) = a := by omega
                  rw [e5, HEA.out]; rfl
                · have HN := HE3.out hL hz
                  rw [HSL.out] at HN
                  have HN' : Hid (QI s o (pos + 1) (a + 1 + (esc (LD s (a + 1))).2) q (sl ++ (esc (LD s (a + 1))).1) R) := HN
                  clear HN HE1 HE2 HE3 HSL
                  obtain ⟨y, hy⟩ : ∃ y, esc (LD s (a + 1)) = y := ⟨_, rfl⟩
                  rw [hy] at CE HN' hz hel htk1
                  obtain ⟨y1, y2⟩ := y
                  simp only at CE HN' hz hel htk1
                  clear hy
                  go_wp2_with (first
                    | (go_at_call 76; refine CE.mono ?_; rintro e w2 ⟨hb2, hA1, hA2, hA3⟩; have he := hA3 hL hz; subst he; have ho3 := own_below ho2 hb2; have hsz2 := hb2.size)
                    | (at_builtin; refine Lib.wpList_append_own_string _ rfl _ _ 63 9 rfl (V.heap.size + 1) 5 i5 Tryz.underlying63 Tryz.underlying9 hi5 hy0 hy1 hy2 (.slice a1 sl.length c1) sl.length (Lib.byteCells sl) rfl ho3 _ rfl ?c4 ?c5 ?c6 ?_))
                  case c4 => simp only [ByteArray.size, List.size_toArray]; unfold maxLen; omega
                  case c5 => simp only [ByteArray.size, List.size_toArray]; omega
                  case c6 => omega
                  intro v4 w4 ho4 hg4 _
                  have hk4 := grow_keep (hB3.trans (hb2.mono (Nat.le_of_lt hlt3))) (by omega) ho3 hg4
                  have ho5 := own_app ho4 (by simp [ByteArray.size]) (l := y1) rfl
                  have hi5' : w4.heap[V.heap.size]? = some (.stringIter x (pos + 1)) := hk4.2.1.trans ((hb2.block _ hlt3).trans hi3)
                  obtain ⟨a5, c5, rfl⟩ := slice_shape ho5
                  obtain ⟨hB5, _, _⟩ := hk4
                  clear ho4 hg4
                  go_wp2
                  go_roundg g'
                  case measure => omega
                  case rel => exact ⟨pos + 1, a + 1 + y2, sl ++ y1, by omega, hi5', by go_num, ho5, hB5, HN', by omega⟩
            · have h92b := beq_f h92
              have HN : Hid (QI s o (pos + wd0) T q acc R) := by
                have := hI.out.pass a haa hTa hal (by rw [HQN.out]; omega) (by rw [hra]; exact h10) (by rw [HQN.out, hra]; exact hrq) (by rw [hra]; exact h92)
                rw [haa, hws.out] at this
                exact this
              clear hI hrs hws hra
              go_wp2
              go_roundg g'
              case measure => omega
              case rel => exact ⟨pos + wd0, T, acc, by omega, hi2, rfl, hown2, hB2, HN, by omega⟩
    · have hnx : ∀ ty, (Instr.next (.pointer (some ⟨V.heap.size, 0, none⟩)) true ty).run Tryz.prog wr = .ok (.tuple #[.bool false]) wr := fun ty => Lib.run_next_end_at wr V.heap.size x pos ty hi hps
      have HR : Hid (R = .bad 4 0) := hI.out.end (by omega)
      clear hI
      go_wp2_with (go_at_call 72; refine (refuse_any _ _ _).mono ?_; rintro e w' ⟨he, rfl⟩; unfold refu at he; subst he)
      exact ⟨rfl, by rw [HR.out]; exact ⟨rfl, Kp.of_below hB HH.out.lt.2⟩⟩

end Go.Proofs.YtlgkfhipobdcfabGreatDoor

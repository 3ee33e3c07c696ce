/- The walk of quoted: a string from its opening quote on. -/
import Derived.Test.YtmejlldabdjpjaaGreatCg18
namespace Go.Proofs.YtmejlldabdjpjaaGreat
open Go.RowKit
theorem LD_cons (s : ByteArray) (p : Nat) (h : p < s.size) : ∃ c, LD s p = c :: LD s (p + 1) := by
  have hl : p < s.data.toList.length := by rw [Array.length_toList]; exact h
  exact ⟨s.data.toList[p], by unfold LD; rw [List.drop_eq_getElem_cons hl]⟩
theorem LD_drop (s : ByteArray) (p n : Nat) : (LD s p).drop n = LD s (p + n) := by unfold LD; rw [List.drop_drop]
theorem LD_nil (s : ByteArray) (p : Nat) (h : ¬ p < s.size) : LD s p = [] := by unfold LD; rw [List.drop_of_length_le]; rw [Array.length_toList]; show s.size ≤ p; omega
theorem LD_ne (s : ByteArray) (p : Nat) (h : p < s.size) : LD s p ≠ [] := drop_ne s p h
/-- What the going through a string holds: at byte o + 1 + pos, all ahead of T being in acc. -/
structure QI (s : ByteArray) (o pos T : Nat) (q : UInt8) (acc : List UInt8) (R : QR) : Prop where
  t1 : o + 1 ≤ T
  t2 : T ≤ s.size
  asc : ∀ i c, o + 1 + pos ≤ i → i < T → (LD s i).head? = some c → c.toNat < 128
  eq : ∀ a, a = max T (o + 1 + pos) → qt q (LD s a) (a - o) (acc ++ (LD s T).take (a - T)) = R
  len : acc.length ≤ 4 * T
theorem QI.start (s : ByteArray) (o : Nat) (h : o < s.size) (q : UInt8) : QI s o 0 (o + 1) q [] (qt q (LD s (o + 1)) 1 []) where
  t1 := Nat.le_refl _
  t2 := h
  asc i c h1 h2 := by omega
  eq a ha := by
    have : a = o + 1 := by omega
    subst this
    have e1 : o + 1 - o = 1 := by omega
    simp [e1]
  len := by simp
theorem QI.skip {s : ByteArray} {o pos T : Nat} {q : UInt8} {acc : List UInt8} {R : QR} (h : QI s o pos T q acc R) (ha : o + 1 + pos < T) : wd s (o + 1 + pos) = 1 ∧ QI s o (pos + 1) T q acc R := by
  have hsz := h.t2
  obtain ⟨c, hc⟩ := LD_cons s (o + 1 + pos) (by omega)
  have h1 := h.asc (o + 1 + pos) c (Nat.le_refl _) ha (by rw [hc]; rfl)
  refine ⟨?_, h.t1, h.t2, fun i c h1 h2 => h.asc i c (by omega) h2, fun a he => h.eq a (by omega), h.len⟩
  rw [wd_drop]
  show wdL (LD s (o + 1 + pos)) = 1
  rw [hc]
  exact (Go.Proofs.YtmejlldabdjpjaaGreat.asc c _ h1).2
theorem rn_head (s : ByteArray) (a : Nat) (c : UInt8) (t : List UInt8) (hc : LD s a = c :: t) (n : Nat) (hn : n < 128) (h : rn s a = n) : c.toNat = n := by
  rw [rn_drop] at h
  have h' : rnL (LD s a) = n := h
  rw [hc] at h'
  have := rn_lt c t (by omega)
  omega
/-- A rune that says nothing. -/
theorem QI.pass {s : ByteArray} {o pos T : Nat} {q : UInt8} {acc : List UInt8} {R : QR} (h : QI s o pos T q acc R) (a : Nat) (haa : a = o + 1 + pos) (ha : T ≤ a) (hl : a < s.size) (hq : q.toNat < 128)
    (h10 : rn s a ≠ 10) (hqq : rn s a ≠ q.toNat) (h92 : rn s a ≠ 92) : QI s o (pos + wd s a) T q acc R := by
  have hwl := wd_le s a hl
  have hwp := wd_pos s a
  refine ⟨h.t1, h.t2, fun i c h1 h2 => by omega, fun x hx => ?_, h.len⟩
  have hx' : x = a + wd s a := by omega
  subst hx'
  rw [← h.eq a (by omega)]
  obtain ⟨c, hc⟩ := LD_cons s a hl
  have hn1 : rn s a = rnL (LD s a) := rn_drop s a
  have hw1 : wd s a = wdL (LD s a) := wd_drop s a
  have hb : ∀ x ∈ (LD s a).take (wd s a), x.toNat ≠ 10 ∧ x ≠ q ∧ x.toNat ≠ 92 := by
    intro x hx
    rw [hw1] at hx
    rcases Nat.lt_or_ge c.toNat 128 with h1 | h1
    · have h2 := Go.Proofs.YtmejlldabdjpjaaGreat.asc c (LD s (a + 1)) h1
      rw [← hc] at h2
      rw [h2.2, hc] at hx
      simp at hx
      subst hx
      rw [hn1, h2.1] at h10 hqq h92
      exact ⟨h10, fun e => hqq (by rw [e]), h92⟩
    · have h2 := hi_bytes c (LD s (a + 1)) h1
      rw [← hc] at h2
      have := h2 x hx
      exact ⟨by omega, fun e => by rw [e] at this; omega, by omega⟩
  have hlen : (LD s a).length = s.size - a := LD_len s a
  rw [qt_pass q (wd s a) (LD s a) (a - o) _ (by omega) hb, LD_drop]
  have e1 : a - o + wd s a = a + wd s a - o := by have := h.t1; omega
  rw [e1, List.append_assoc]
  congr 2
  have e2 : a + wd s a - T = (a - T) + wd s a := by omega
  rw [e2, List.take_add, LD_drop]
  congr 3
  omega
theorem QI.at {s : ByteArray} {o pos T : Nat} {q : UInt8} {acc : List UInt8} {R : QR} (h : QI s o pos T q acc R) (a : Nat) (haa : a = o + 1 + pos) (ha : T ≤ a) : qt q (LD s a) (a - o) (acc ++ (LD s T).take (a - T)) = R := h.eq a (by omega)
theorem QI.close {s : ByteArray} {o pos T : Nat} {q : UInt8} {acc : List UInt8} {R : QR} (h : QI s o pos T q acc R) (a : Nat) (haa : a = o + 1 + pos) (ha : T ≤ a) (hl : a < s.size) (hq : q.toNat = 39 ∨ q.toNat = 34) (hr : rn s a = q.toNat) :
    R = if 10000 < (acc ++ (LD s T).take (a - T)).length then .bad 14 0 else .ok (acc ++ (LD s T).take (a - T)) (a - o + 1) := by
  obtain ⟨c, hc⟩ := LD_cons s a hl
  have h1 := rn_head s a c _ hc q.toNat (by omega) hr
  rw [← h.at a haa ha, hc, qt_end q c _ _ _ (UInt8.toNat_inj.1 h1) (by omega)]
theorem QI.nl {s : ByteArray} {o pos T : Nat} {q : UInt8} {acc : List UInt8} {R : QR} (h : QI s o pos T q acc R) (a : Nat) (haa : a = o + 1 + pos) (ha : T ≤ a) (hl : a < s.size) (hr : rn s a = 10) : R = .bad 4 0 := by
  obtain ⟨c, hc⟩ := LD_cons s a hl
  rw [← h.at a haa ha, hc, qt_nl q c _ _ _ (rn_head s a c _ hc 10 (by omega) hr)]
theorem QI.end {s : ByteArray} {o pos T : Nat} {q : UInt8} {acc : List UInt8} {R : QR} (h : QI s o pos T q acc R) (hl : ¬ o + 1 + pos < s.size) : R = .bad 4 0 := by
  have := h.t2
  rw [← h.at (o + 1 + pos) rfl (by omega), LD_nil s _ hl, qt_nil]
theorem QI.esc {s : ByteArray} {o pos T : Nat} {q : UInt8} {acc : List UInt8} {R : QR} (h : QI s o pos T q acc R) (a : Nat) (haa : a = o + 1 + pos) (ha : T ≤ a) (hl : a < s.size) (hq : q.toNat = 39 ∨ q.toNat = 34) (hr : rn s a = 92) :
    wd s a = 1 ∧ (LD s (a + 1) = [] → R = .bad 4 0) ∧ (LD s (a + 1) ≠ [] → (esc (LD s (a + 1))).2 = 0 → R = .bad 4 (a - o)) ∧
      (LD s (a + 1) ≠ [] → (esc (LD s (a + 1))).2 ≠ 0 → QI s o (pos + 1) (a + 1 + (esc (LD s (a + 1))).2) q (acc ++ (LD s T).take (a - T) ++ (esc (LD s (a + 1))).1) R) := by
  obtain ⟨c, hc⟩ := LD_cons s a hl
  have h1 := rn_head s a c _ hc 92 (by omega) hr
  have hR := h.at a haa ha
  rw [hc, qt_esc q c _ _ _ h1 (by omega)] at hR
  have hw : wd s a = 1 := by
    rw [wd_drop]
    show wdL (LD s a) = 1
    rw [hc]; exact (Go.Proofs.YtmejlldabdjpjaaGreat.asc c _ (by omega)).2
  refine ⟨hw, fun e => ?_, fun e1 e2 => ?_, fun e1 e2 => ?_⟩
  · rw [if_pos e] at hR; exact hR.symm
  · rw [if_neg e1, if_pos e2] at hR; exact hR.symm
  · rw [if_neg e1, if_neg e2] at hR
    obtain ⟨k1, k2⟩ := esc_take (LD s (a + 1))
    rw [LD_len] at k1
    have hlen : (acc ++ (LD s T).take (a - T) ++ (Go.Proofs.YtmejlldabdjpjaaGreat.esc (LD s (a + 1))).1).length ≤ 4 * (a + 1 + (Go.Proofs.YtmejlldabdjpjaaGreat.esc (LD s (a + 1))).2) := by
      have := h.len
      have h5 := esc_len4 (LD s (a + 1))
      simp only [List.length_append, List.length_take, LD_len]
      omega
    have ht := h.t1
    refine ⟨by omega, by omega, fun i d h1 h2 h3 => ?_, fun x hx => ?_, hlen⟩
    · have h4 : (LD s (a + 1)).drop (i - (a + 1)) = LD s i := by rw [LD_drop]; congr 1; omega
      apply k2
      have h6 : d ∈ ((LD s (a + 1)).take (Go.Proofs.YtmejlldabdjpjaaGreat.esc (LD s (a + 1))).2).drop (i - (a + 1)) := by
        rw [List.drop_take, h4]
        cases hL : LD s i with
        | nil => rw [hL] at h3; cases h3
        | cons y z =>
          rw [hL] at h3
          have : y = d := by simpa using h3
          subst this
          obtain ⟨m, hm⟩ : ∃ m, (Go.Proofs.YtmejlldabdjpjaaGreat.esc (LD s (a + 1))).2 - (i - (a + 1)) = m + 1 := ⟨(Go.Proofs.YtmejlldabdjpjaaGreat.esc (LD s (a + 1))).2 - (i - (a + 1)) - 1, by omega⟩
          rw [hm]; simp
      exact List.mem_of_mem_drop h6
    · have hx' : x = a + 1 + (Go.Proofs.YtmejlldabdjpjaaGreat.esc (LD s (a + 1))).2 := by omega
      subst hx'
      rw [LD_drop] at hR
      rw [← hR]
      have e3 : a + 1 + (Go.Proofs.YtmejlldabdjpjaaGreat.esc (LD s (a + 1))).2 - o = a - o + 1 + (Go.Proofs.YtmejlldabdjpjaaGreat.esc (LD s (a + 1))).2 := by omega
      rw [e3]
      simp
end Go.Proofs.YtmejlldabdjpjaaGreat

/- The walk of quoted, the loop itself. -/
namespace Go.Proofs.YtmejlldabdjpjaaGreat
open Go.RowKit
/-- What a string leaves: its token, or the refusal. -/
def QO (b B : Nat) (s : ByteArray) (ts : List Tok) (V : World) (o : Nat) : QR → Ending → World → Prop
  | .ok v n, e, W' => e = .returned (.int .i64 ((o + n : Nat) : Int)) ∧ SC b B s (ts ++ [⟨4, v, 0, o⟩]) W' ∧ Kp b B V W'
  | .bad c x, e, W' => e = refu c ((o + x : Nat) : Int) ∧ Kp b B V W'
theorem own_iterAt {w : World} {base : Nat} {e : TypeId} {size : Nat} {v : Value} {n : Nat} {xs : List Value} (h : w.ownsRow base e size v n xs) {k : Nat} (hk : k < base) (x : ByteArray) (p : Nat) : (w.iterAt k x p).ownsRow base e size v n xs := by
  refine ⟨h.1, ?_⟩
  rcases h.2 with h2 | ⟨g, cap, cur, g1, g2, g3, r⟩
  · exact .inl h2
  · refine .inr ⟨g, cap, cur, g1, g2, ?_, r⟩
    rw [Lib.iterAt_other w k g x p (by omega)]; exact g3
theorem own_app {w : World} {base n : Nat} {v : Value} {acc l : List UInt8} {x : ByteArray} (h : w.ownsRow base 5 1 v n (Lib.byteCells acc ++ Lib.strCells x)) (hn : n = acc.length + x.size) (hx : x.data.toList = l) : w.ownsRow base 5 1 v (acc ++ l).length (Lib.byteCells (acc ++ l)) := by
  subst hx hn
  have e1 : (acc ++ x.data.toList).length = acc.length + x.size := by rw [List.length_append, Array.length_toList]; rfl
  rw [e1, Lib.byteCells_append]
  exact h
theorem grow_keep {V W w1 : World} {v : Value} {n : Nat} {xs : List Value} (hB : Below V.heap.size V W) (hlt : V.heap.size < W.heap.size) (hown : W.ownsRow (V.heap.size + 1) 5 1 v n xs) (hg : W.grownBy w1 v.ownBlock) :
    Below V.heap.size V w1 ∧ w1.heap[V.heap.size]? = W.heap[V.heap.size]? ∧ W.heap.size ≤ w1.heap.size :=
  ⟨hB.grown hg (by omega) (fun k hk => by have := (hown.lt k hk).1; omega), hg.block _ hlt (fun e => by have := (hown.lt _ e.symm).1; omega), hg.size⟩
theorem ext_TA (s : ByteArray) (T a : Nat) : (s.extract T a).data.toList = (LD s T).take (a - T) := by unfold LD; simp
set_option maxRecDepth 20000 in
set_option maxHeartbeats 8000000 in
theorem quoted_any (b B : Nat) (s : ByteArray) (ts : List Tok) (V : World) (h : SC b B s ts V) (o : Nat) (ho : o < s.size) (hs : s.size ≤ 20000) (hts : ts.length ≤ 20000) (q : UInt8) (qn : Nat) (hqn : q.toNat = qn) (hq : qn = 39 ∨ qn = 34) :
    Calls Tryz.prog 118 #[.pointer (some ⟨b, 0, none⟩), .int .i64 o, .int .i32 qn] V fun e W' => QO b B s ts V o (qt q (LD s (o + 1)) 1 []) e W' := by
  obtain ⟨i5, hi5, hy0, hy1, hy2⟩ := info_parts W.Tryz.info5
  have HQ := QI.start s o ho q
  obtain ⟨R, hR⟩ : ∃ R, qt q (LD s (o + 1)) 1 [] = R := ⟨_, rfl⟩
  rw [hR] at HQ ⊢
  have HQ0 : Hid (QI s o 0 (o + 1) q [] R) := HQ
  have HH : Hid (SC b B s ts V) := h
  have hsrc := h.src
  have hbV : b < V.heap.size := by have := h.lt; omega
  obtain ⟨x, hx⟩ : ∃ x, s.extract (o + 1) s.size = x := ⟨_, rfl⟩
  have hxz : x.size = s.size - (o + 1) := by rw [← hx, ByteArray.size_extract]; omega
  have hxr : ∀ p, rn x p = rn s (o + 1 + p) := fun p => by rw [← hx]; exact rn_extract s (o + 1) p
  have hxw : ∀ p, wd x p = wd s (o + 1 + p) := fun p => by rw [← hx]; exact wd_extract s (o + 1) p
  have HXR : Hid (∀ p, rn x p = rn s (o + 1 + p)) := hxr
  have HXW : Hid (∀ p, wd x p = wd s (o + 1 + p)) := hxw
  have HQN : Hid (q.toNat = qn) := hqn
  clear hR HQ h hxr hxw hqn
  go_enter Tryz.func118, Tryz.ntmps118
  go_wp2
  go_loopg [8, 9] (x.size + 1) (fun gf v8 v9 wx => ∃ (pos T : Nat) (acc : List UInt8), pos ≤ x.size ∧ wx.heap[V.heap.size]? = some (.stringIter x pos) ∧ v9 = .int .i64 T ∧ wx.ownsRow (V.heap.size + 1) 5 1 v8 acc.length (Lib.byteCells acc) ∧ Below V.heap.size V wx ∧ Hid (QI s o pos T q acc R) ∧ x.size < pos + gf)
  case atStart => exact ⟨0, o + 1, [], Nat.zero_le _, World.iter_heap V x 0, rfl, World.ownsRow_nil _ _ _ _, (Below.refl _ _).alloc (Nat.le_refl _) _, HQ0, by omega⟩
  case round =>
    obtain ⟨pos, T, acc, hple, hi, rfl, hown, hB, hI, hfu⟩ := hrel
    have hT1 := hI.out.t1
    have hT2 := hI.out.t2
    have hlen := hI.out.len
    obtain ⟨av, cv, rfl⟩ := slice_shape hown
    by_cases hps : pos < x.size
    · obtain ⟨g', rfl⟩ : ∃ g', gk = g' + 1 := ⟨gk - 1, by omega⟩
      have hnx : ∀ ty, (Instr.next (.pointer (some ⟨V.heap.size, 0, none⟩)) true ty).run Tryz.prog wr = .ok (.tuple #[.bool true, .int .i64 pos, .int .i32 (rn x pos)]) (wr.iterAt V.heap.size x (pos + wd x pos)) := fun ty => Lib.run_next_any_at wr V.heap.size x pos ty hi hps
      have hwp := wd_pos x pos
      have hwl := wd_le x pos hps
      have hi2 := Lib.iterAt_heap wr V.heap.size x pos (pos + wd x pos) hi
      have hB2 := Lib.below_iterAt hB (Nat.le_refl _) x (pos + wd x pos)
      have hown2 := own_iterAt hown (Nat.lt_succ_self _) x (pos + wd x pos)
      have hlt := (Array.getElem?_eq_some_iff.1 hi2).1
      obtain ⟨W, hW⟩ : ∃ W, wr.iterAt V.heap.size x (pos + wd x pos) = W := ⟨_, rfl⟩
      rw [hW] at hnx hi2 hB2 hown2 hlt
      obtain ⟨r, hr⟩ : ∃ r, rn x pos = r := ⟨_, rfl⟩
      obtain ⟨wd0, hwd⟩ : ∃ wd0, wd x pos = wd0 := ⟨_, rfl⟩
      have hrs : Hid (rn s (o + 1 + pos) = r) := by show _ = _; rw [← HXR.out, hr]
      have hws : Hid (wd s (o + 1 + pos) = wd0) := by show _ = _; rw [← HXW.out, hwd]
      have hrl : r ≤ 1114111 := by rw [← hr]; exact rn_le x pos
      rw [hr] at hnx
      rw [hwd] at hi2 hwp hwl
      have hsrc2 : W.cell? ⟨b, 0, none⟩ = some (.string s) := (hB2.cell hbV).trans hsrc
      clear hi hB hown hW hr hwd
      by_cases hsk : o + 1 + pos < T
      · obtain ⟨e1, HN⟩ := hI.out.skip hsk
        have HN' : Hid (QI s o (pos + 1) T q acc R) := HN
        have e2 : wd0 = 1 := by rw [← hws.out, e1]
        subst e2
        clear HN e1
        go_wp2
        go_roundg g'
        case measure => omega
        case rel => exact ⟨pos + 1, T, acc, by omega, hi2, rfl, hown2, hB2, HN', by omega⟩
      · obtain ⟨a, haa⟩ : ∃ a, a = o + 1 + pos := ⟨_, rfl⟩
        have hTa : T ≤ a := by omega
        have hal : a < s.size := by omega
        have hra : rn s a = r := by rw [haa]; exact hrs.out
        by_cases hrq : r = qn
        · have hqb := beq_t hrq
          have hR := hI.out.close a haa hTa hal (by rw [HQN.out]; exact hq) (by rw [HQN.out, hra, hrq])
          obtain ⟨sl, hsl⟩ : ∃ sl, acc ++ (LD s T).take (a - T) = sl := ⟨_, rfl⟩
          rw [hsl] at hR
          have hslen : sl.length ≤ 1000000 := by
            rw [← hsl, List.length_append, List.length_take]
            omega
          have HSL : Hid (acc ++ (LD s T).take (a - T) = sl) := hsl
          have HR : Hid (R = if 10000 < sl.length then .bad 14 0 else .ok sl (a - o + 1)) := hR
          have HHB := hB2
          clear hR hsl hra hrq hI hrs hws
          go_wp2_with (at_builtin; refine Lib.wpList_append_own_string _ rfl _ _ 111 9 rfl (V.heap.size + 1) 5 i5 Tryz.underlying111 Tryz.underlying9 hi5 hy0 hy1 hy2 (.slice av acc.length cv) acc.length (Lib.byteCells acc) rfl hown2 _ rfl ?c1 ?c2 ?c3 ?_)
          case c1 => rw [ByteArray.size_extract]; unfold maxLen; omega
          case c2 => rw [ByteArray.size_extract]; omega
          case c3 => omega
          intro v1 w1 ho1 hg1 _
          have hk1 := grow_keep HHB hlt hown2 hg1
          have ho2 := own_app ho1 (by rw [ByteArray.size_extract]) (ext_TA s T _)
          rw [← haa, HSL.out] at ho2
          have hSC1 := HH.out.below hk1.1
          have CA := addString_any b B _ s ts w1 hSC1 o v1 sl ho2 hslen hts
          clear ho1 hg1 hown2
          by_cases hbig : 10000 < sl.length
          · go_wp2_with (go_at_call 145; refine CA.mono ?_; rintro e w2 ⟨hA1, hA2⟩; obtain ⟨he, hk2⟩ := hA1 hbig; unfold refu at he; subst he)
            exact ⟨rfl, by rw [HR.out, if_pos hbig]; exact ⟨rfl, (Kp.of_below hk1.1 HH.out.lt.2).trans hk2⟩⟩
          · go_wp2_with (go_at_call 145; refine CA.mono ?_; rintro e w2 ⟨hA1, hA2⟩; obtain ⟨he, hs2, hk2⟩ := hA2 hbig; subst he)
            go_ret
            rw [HR.out, if_neg hbig]
            exact ⟨ret1 (by omega), hs2, (Kp.of_below hk1.1 HH.out.lt.2).trans hk2⟩
        · have hqb := beq_f hrq
          by_cases h10 : r = 10
          · have h10b := beq_t h10
            have HR : Hid (R = .bad 4 0) := hI.out.nl a haa hTa hal (by rw [hra, h10])
            clear hI hrs hws hra
            go_wp2_with (go_at_call 142; refine (refuse_any _ _ _).mono ?_; rintro e w' ⟨he, rfl⟩; unfold refu at he; subst he)
            exact ⟨rfl, by rw [HR.out]; exact ⟨rfl, Kp.of_below hB2 HH.out.lt.2⟩⟩
          · have h10b := beq_f h10
            by_cases h92 : r = 92
            · have h92b := beq_t h92
              obtain ⟨e1, E1, E2, E3⟩ := hI.out.esc a haa hTa hal (by rw [HQN.out]; exact hq) (by rw [hra, h92])
              have e2 : wd0 = 1 := by rw [← hws.out, ← haa]; exact e1
              subst e2
              have HE1 : Hid _ := E1
              have HE2 : Hid _ := E2
              have HE3 : Hid _ := E3
              have htk := esc_take (LD s (a + 1))
              have hel := esc_le (LD s (a + 1))
              rw [LD_len] at htk
              have htk1 := htk.1
              clear E1 E2 E3 htk hra hI hrs hws e1
              go_wp2_with (at_builtin; refine Lib.wpList_append_own_string _ rfl _ _ 111 9 rfl (V.heap.size + 1) 5 i5 Tryz.underlying111 Tryz.underlying9 hi5 hy0 hy1 hy2 (.slice av acc.length cv) acc.length (Lib.byteCells acc) rfl hown2 _ rfl ?c1 ?c2 ?c3 ?_)
              case c1 => rw [ByteArray.size_extract]; unfold maxLen; omega
              case c2 => rw [ByteArray.size_extract]; omega
              case c3 => omega
              intro v1 w1 ho1 hg1 _
              have hk1 := grow_keep hB2 hlt hown2 hg1
              have ho2 := own_app ho1 (by rw [ByteArray.size_extract]) (ext_TA s T _)
              rw [← haa] at ho2
              have hi3 : w1.heap[V.heap.size]? = some (.stringIter x (pos + 1)) := hk1.2.1.trans hi2
              have hsrc3 : w1.cell? ⟨b, 0, none⟩ = some (.string s) := (hk1.1.cell hbV).trans hsrc
              have hlt3 : V.heap.size < w1.heap.size := by omega
              have CE := escape_any b s w1 hsrc3 o a hal hs
              have ea : (a : Int) = (o : Int) + 1 + pos := by omega
              rw [ea] at CE
              obtain ⟨sl, hsl⟩ : ∃ sl, acc ++ (LD s T).take (a - T) = sl := ⟨_, rfl⟩
              have hslen : sl.length ≤ 1000000 := by
                rw [← hsl, List.length_append, List.length_take]
                omega
              rw [hsl] at ho2
              have HSL : Hid (acc ++ (LD s T).take (a - T) = sl) := hsl
              obtain ⟨hB3, _, _⟩ := hk1
              obtain ⟨a1, c1, rfl⟩ := slice_shape ho2
              have HEA : Hid ((a : Int) = (o : Int) + 1 + pos) := ea
              clear ho1 hg1 hown2 hi2 hB2 hsrc2 hsl ea
              by_cases hL : LD s (a + 1) = []
              · go_wp2_with (go_at_call 146; refine CE.mono ?_; rintro e w2 ⟨hb2, hA1, hA2, hA3⟩; have he := hA1 hL; unfold refu at he; subst he)
                exact ⟨rfl, by rw [HE1.out hL]; exact ⟨rfl, (Kp.of_below (hB3.trans (hb2.mono (Nat.le_of_lt hlt3))) HH.out.lt.2)⟩⟩
              · by_cases hz : (esc (LD s (a + 1))).2 = 0
                · go_wp2_with (go_at_call 146; refine CE.mono ?_; rintro e w2 ⟨hb2, hA1, hA2, hA3⟩; have he := hA2 hL hz; unfold refu at he; subst he)
                  refine ⟨rfl, ?_⟩
                  rw [HE2.out hL hz]
                  refine ⟨?_, Kp.of_below (hB3.trans (hb2.mono (Nat.le_of_lt hlt3))) HH.out.lt.2⟩
                  have e5 : o + (a - o) = a := by omega
                  rw [e5, HEA.out]; rfl
                · have HN := HE3.out hL hz
                  rw [HSL.out] at HN
                  have HN' : Hid (QI s o (pos + 1) (a + 1 + (esc (LD s (a + 1))).2) q (sl ++ (esc (LD s (a + 1))).1) R) := HN
                  clear HN HE1 HE2 HE3 HSL
                  obtain ⟨y, hy⟩ : ∃ y, esc (LD s (a + 1)) = y := ⟨_, rfl⟩
                  rw [hy] at CE HN' hz hel htk1
                  obtain ⟨y1, y2⟩ := y
                  simp only at CE HN' hz hel htk1
                  clear hy
                  go_wp2_with (first
                    | (go_at_call 146; refine CE.mono ?_; rintro e w2 ⟨hb2, hA1, hA2, hA3⟩; have he := hA3 hL hz; subst he; have ho3 := own_below ho2 hb2; have hsz2 := hb2.size)
                    | (at_builtin; refine Lib.wpList_append_own_string _ rfl _ _ 111 9 rfl (V.heap.size + 1) 5 i5 Tryz.underlying111 Tryz.underlying9 hi5 hy0 hy1 hy2 (.slice a1 sl.length c1) sl.length (Lib.byteCells sl) rfl ho3 _ rfl ?c4 ?c5 ?c6 ?_))
                  case c4 => simp only [ByteArray.size, List.size_toArray]; unfold maxLen; omega
                  case c5 => simp only [ByteArray.size, List.size_toArray]; omega
                  case c6 => omega
                  intro v4 w4 ho4 hg4 _
                  have hk4 := grow_keep (hB3.trans (hb2.mono (Nat.le_of_lt hlt3))) (by omega) ho3 hg4
                  have ho5 := own_app ho4 (by simp [ByteArray.size]) (l := y1) rfl
                  have hi5' : w4.heap[V.heap.size]? = some (.stringIter x (pos + 1)) := hk4.2.1.trans ((hb2.block _ hlt3).trans hi3)
                  obtain ⟨a5, c5, rfl⟩ := slice_shape ho5
                  obtain ⟨hB5, _, _⟩ := hk4
                  clear ho4 hg4
                  go_wp2
                  go_roundg g'
                  case measure => omega
                  case rel => exact ⟨pos + 1, a + 1 + y2, sl ++ y1, by omega, hi5', by go_num, ho5, hB5, HN', by omega⟩
            · have h92b := beq_f h92
              have HN : Hid (QI s o (pos + wd0) T q acc R) := by
                have := hI.out.pass a haa hTa hal (by rw [HQN.out]; omega) (by rw [hra]; exact h10) (by rw [HQN.out, hra]; exact hrq) (by rw [hra]; exact h92)
                rw [haa, hws.out] at this
                exact this
              clear hI hrs hws hra
              go_wp2
              go_roundg g'
              case measure => omega
              case rel => exact ⟨pos + wd0, T, acc, by omega, hi2, rfl, hown2, hB2, HN, by omega⟩
    · have hnx : ∀ ty, (Instr.next (.pointer (some ⟨V.heap.size, 0, none⟩)) true ty).run Tryz.prog wr = .ok (.tuple #[.bool false]) wr := fun ty => Lib.run_next_end_at wr V.heap.size x pos ty hi hps
      have HR : Hid (R = .bad 4 0) := hI.out.end (by omega)
      clear hI
      go_wp2_with (go_at_call 142; refine (refuse_any _ _ _).mono ?_; rintro e w' ⟨he, rfl⟩; unfold refu at he; subst he)
      exact ⟨rfl, by rw [HR.out]; exact ⟨rfl, Kp.of_below hB HH.out.lt.2⟩⟩
end Go.Proofs.YtmejlldabdjpjaaGreat

/- The walk of take: what stands next. -/
namespace Go.Proofs.YtmejlldabdjpjaaGreat
open Go.RowKit
/-- What a step leaves. -/
def TO (b B : Nat) (s : ByteArray) (ts : List Tok) (V : World) (p : Nat) : St → Ending → World → Prop
  | .skip n, e, W' => e = .returned (.int .i64 ((p + n : Nat) : Int)) ∧ SC b B s ts W' ∧ Kp b B V W'
  | .tok k t v n, e, W' => e = .returned (.int .i64 ((p + n : Nat) : Int)) ∧ SC b B s (ts ++ [⟨k, t, v, p⟩]) W' ∧ Kp b B V W'
  | .bad c x, e, W' => e = refu c ((p + x : Nat) : Int) ∧ Kp b B V W'
theorem stp_blank (l : List UInt8) (r : Nat) (hr : rnL l = r) (h : r = 32 ∨ r = 9 ∨ r = 10 ∨ r = 13) : stp l = .skip 1 := by
  unfold stp; rw [hr, if_pos h]
theorem stp_comment (l : List UInt8) (r : Nat) (hr : rnL l = r) (h : ¬ (r = 32 ∨ r = 9 ∨ r = 10 ∨ r = 13)) (hc : Lib.hasPrefix l [45, 45] = true) : stp l = .skip (spn (fun r => decide (r ≠ 10)) l) := by
  unfold stp; rw [hr, if_neg h, if_pos hc]
theorem stp_name (l : List UInt8) (r : Nat) (hr : rnL l = r) (h : ¬ (r = 32 ∨ r = 9 ∨ r = 10 ∨ r = 13)) (hc : Lib.hasPrefix l [45, 45] = false) (hl : letB r = true) :
    stp l = if 40 < spn inNm l then .bad 14 0 else .tok (if wordB (l.take (spn inNm l)) then 2 else 1) (l.take (spn inNm l)) 0 (spn inNm l) := by
  unfold stp; rw [hr, if_neg h, hc, if_neg (by simp), if_pos hl]
theorem stp_number (l : List UInt8) (r : Nat) (hr : rnL l = r) (h : ¬ (r = 32 ∨ r = 9 ∨ r = 10 ∨ r = 13)) (hc : Lib.hasPrefix l [45, 45] = false) (hl : letB r = false) (hd : digB r = true) :
    stp l = if W.parE (l.take (spn inNm l)) ≠ 0 then .bad (W.parE (l.take (spn inNm l))) 0 else .tok 3 (l.take (spn inNm l)) (W.parN (l.take (spn inNm l))) (spn inNm l) := by
  unfold stp; rw [hr, if_neg h, hc, if_neg (by simp), hl, if_neg (by simp), if_pos hd]
theorem stp_quote (l : List UInt8) (r : Nat) (hr : rnL l = r) (h : ¬ (r = 32 ∨ r = 9 ∨ r = 10 ∨ r = 13)) (hc : Lib.hasPrefix l [45, 45] = false) (hl : letB r = false) (hd : digB r = false) (hq : r = 39 ∨ r = 34) :
    stp l = match qt (l.headD 0) (l.drop 1) 1 [] with | .ok v n => .tok 4 v 0 n | .bad c o => .bad c o := by
  unfold stp; rw [hr, if_neg h, hc, if_neg (by simp), hl, if_neg (by simp), hd, if_neg (by simp), if_pos hq]; rfl
theorem stp_sign (l : List UInt8) (r : Nat) (hr : rnL l = r) (h : ¬ (r = 32 ∨ r = 9 ∨ r = 10 ∨ r = 13)) (hc : Lib.hasPrefix l [45, 45] = false) (hl : letB r = false) (hd : digB r = false) (hq : ¬ (r = 39 ∨ r = 34)) :
    stp l = if sgz l = 0 then .bad 4 0 else .tok 5 (l.take (sgz l)) 0 (sgz l) := by
  unfold stp; rw [hr, if_neg h, hc, if_neg (by simp), hl, if_neg (by simp), hd, if_neg (by simp), if_neg hq]
set_option maxRecDepth 20000 in
set_option maxHeartbeats 2000000 in
theorem take_blank (b B : Nat) (s : ByteArray) (ts : List Tok) (V : World) (h : SC b B s ts V) (p : Nat) (hp : p < s.size) (hs : s.size ≤ 20000) (hts : ts.length ≤ p) (r : Nat) (hr : rn s p = r) (hbl : r = 32 ∨ r = 9 ∨ r = 10 ∨ r = 13) :
    Calls Tryz.prog 85 #[.pointer (some ⟨b, 0, none⟩), .int .i64 p, .int .i32 r] V fun e W' => TO b B s ts V p (stp (LD s p)) e W' := by
  have _ := (⟨hp, hs, hts⟩ : _ ∧ _ ∧ _)
  have hsrc := h.src
  have hB := h.lt
  have hrl : r ≤ 1114111 := by rw [← hr]; exact rn_le s p
  have hrL : rnL (LD s p) = r := by rw [← hr, rn_drop]; rfl
  rw [stp_blank _ r hrL hbl]
  clear hr hrL
  rcases hbl with rfl | rfl | rfl | rfl
  all_goals
    go_enter Tryz.func85, Tryz.ntmps85
    go_wp2
    go_ret
    exact ⟨rfl, h, Kp.refl _ _ _⟩
set_option maxRecDepth 20000 in
set_option maxHeartbeats 2000000 in
theorem take_comment (b B : Nat) (s : ByteArray) (ts : List Tok) (V : World) (h : SC b B s ts V) (p : Nat) (hp : p < s.size) (hs : s.size ≤ 20000) (hts : ts.length ≤ p) (r : Nat) (hr : rn s p = r) (hbl : ¬ (r = 32 ∨ r = 9 ∨ r = 10 ∨ r = 13)) (hc : Lib.hasPrefix (LD s p) [45, 45] = true) :
    Calls Tryz.prog 85 #[.pointer (some ⟨b, 0, none⟩), .int .i64 p, .int .i32 r] V fun e W' => TO b B s ts V p (stp (LD s p)) e W' := by
  have _ := (⟨hp, hs, hts⟩ : _ ∧ _ ∧ _)
  have hsrc := h.src
  have hB := h.lt
  have hrl : r ≤ 1114111 := by rw [← hr]; exact rn_le s p
  have hrL : rnL (LD s p) = r := by rw [← hr, rn_drop]; rfl
  have b1 : ((r : Int) == 32) = false := by rw [beq_eq_false_iff_ne]; omega
  have b2 : ((r : Int) == 9) = false := by rw [beq_eq_false_iff_ne]; omega
  have b3 : ((r : Int) == 10) = false := by rw [beq_eq_false_iff_ne]; omega
  have b4 : ((r : Int) == 13) = false := by rw [beq_eq_false_iff_ne]; omega
  have CP := fun w => Tryz.strings_HasPrefix (s.extract p s.size) ⟨#[45, 45]⟩ w
  rw [ext_end, show (⟨#[45, 45]⟩ : ByteArray).data.toList = [45, 45] from rfl, hc] at CP
  rw [stp_comment _ r hrL hbl hc]
  have C1 := fun w => span_any (s.extract p s.size) 113 (fun r => decide (r ≠ 10)) enters38 (fun r w _ => inComment_any r w) w (by have := ext_size s p s.size hs; unfold maxLen at this; omega)
  rw [ext_end] at C1
  have hl := spn_le (fun r => decide (r ≠ 10)) (LD s p)
  rw [LD_len] at hl
  obtain ⟨n, hn⟩ : ∃ n, spn (fun r => decide (r ≠ 10)) (LD s p) = n := ⟨_, rfl⟩
  rw [hn] at C1 hl ⊢
  clear hr hrL hbl hc hn
  go_enter Tryz.func85, Tryz.ntmps85
  go_wp2_with (first
    | (go_at_call 111; refine (CP _).mono ?_; rintro e w' ⟨rfl, rfl⟩)
    | (go_at_call 112; refine (C1 _).mono ?_; rintro e w' ⟨rfl, h2⟩))
  go_ret
  exact ⟨rfl, h.below h2, Kp.of_below h2 hB.2⟩
set_option maxRecDepth 20000 in
set_option maxHeartbeats 2000000 in
theorem take_name (b B : Nat) (s : ByteArray) (ts : List Tok) (V : World) (h : SC b B s ts V) (p : Nat) (hp : p < s.size) (hs : s.size ≤ 20000) (hts : ts.length ≤ p) (r : Nat) (hr : rn s p = r) (hbl : ¬ (r = 32 ∨ r = 9 ∨ r = 10 ∨ r = 13)) (hc : Lib.hasPrefix (LD s p) [45, 45] = false) (hl : letB r = true) :
    Calls Tryz.prog 85 #[.pointer (some ⟨b, 0, none⟩), .int .i64 p, .int .i32 r] V fun e W' => TO b B s ts V p (stp (LD s p)) e W' := by
  have _ := (⟨hp, hs, hts⟩ : _ ∧ _ ∧ _)
  have hsrc := h.src
  have hB := h.lt
  have hrl : r ≤ 1114111 := by rw [← hr]; exact rn_le s p
  have hrL : rnL (LD s p) = r := by rw [← hr, rn_drop]; rfl
  have b1 : ((r : Int) == 32) = false := by rw [beq_eq_false_iff_ne]; omega
  have b2 : ((r : Int) == 9) = false := by rw [beq_eq_false_iff_ne]; omega
  have b3 : ((r : Int) == 10) = false := by rw [beq_eq_false_iff_ne]; omega
  have b4 : ((r : Int) == 13) = false := by rw [beq_eq_false_iff_ne]; omega
  have CP := fun w => Tryz.strings_HasPrefix (s.extract p s.size) ⟨#[45, 45]⟩ w
  rw [ext_end, show (⟨#[45, 45]⟩ : ByteArray).data.toList = [45, 45] from rfl, hc] at CP
  rw [stp_name _ r hrL hbl hc hl]
  by_cases hn : 40 < spn inNm (LD s p)
  · rw [if_pos hn]
    have CS := name_bad b B s ts V h p hp hs hn
    clear hr hrL hbl hc hn
    go_enter Tryz.func85, Tryz.ntmps85
    go_wp2_with (first
      | (go_at_call 111; refine (CP _).mono ?_; rintro e w' ⟨rfl, rfl⟩)
      | (go_at_call 114; refine (letter_any _ _).mono ?_; rintro e w' ⟨rfl, rfl⟩)
      | (go_at_call 115; refine CS.mono ?_; rintro e w' ⟨he, h2⟩; unfold refu at he; subst he))
    exact ⟨rfl, rfl, h2⟩
  · rw [if_neg hn]
    have CS := name_ok b B s ts V h p hp hs hts hn
    obtain ⟨k, hk⟩ : ∃ k : Int, (if wordB ((LD s p).take (spn inNm (LD s p))) then 2 else 1) = k := ⟨_, rfl⟩
    rw [hk] at CS ⊢
    clear hk
    clear hr hrL hbl hc hn
    go_enter Tryz.func85, Tryz.ntmps85
    go_wp2_with (first
      | (go_at_call 111; refine (CP _).mono ?_; rintro e w' ⟨rfl, rfl⟩)
      | (go_at_call 114; refine (letter_any _ _).mono ?_; rintro e w' ⟨rfl, rfl⟩)
      | (go_at_call 115; refine CS.mono ?_; rintro e w' ⟨rfl, h1, h2⟩))
    go_ret
    exact ⟨rfl, h1, h2⟩
set_option maxRecDepth 20000 in
set_option maxHeartbeats 2000000 in
theorem take_number (b B : Nat) (s : ByteArray) (ts : List Tok) (V : World) (h : SC b B s ts V) (p : Nat) (hp : p < s.size) (hs : s.size ≤ 20000) (hts : ts.length ≤ p) (r : Nat) (hr : rn s p = r) (hbl : ¬ (r = 32 ∨ r = 9 ∨ r = 10 ∨ r = 13)) (hc : Lib.hasPrefix (LD s p) [45, 45] = false) (hl : letB r = false) (hd : digB r = true) :
    Calls Tryz.prog 85 #[.pointer (some ⟨b, 0, none⟩), .int .i64 p, .int .i32 r] V fun e W' => TO b B s ts V p (stp (LD s p)) e W' := by
  have _ := (⟨hp, hs, hts⟩ : _ ∧ _ ∧ _)
  have hsrc := h.src
  have hB := h.lt
  have hrl : r ≤ 1114111 := by rw [← hr]; exact rn_le s p
  have hrL : rnL (LD s p) = r := by rw [← hr, rn_drop]; rfl
  have b1 : ((r : Int) == 32) = false := by rw [beq_eq_false_iff_ne]; omega
  have b2 : ((r : Int) == 9) = false := by rw [beq_eq_false_iff_ne]; omega
  have b3 : ((r : Int) == 10) = false := by rw [beq_eq_false_iff_ne]; omega
  have b4 : ((r : Int) == 13) = false := by rw [beq_eq_false_iff_ne]; omega
  have CP := fun w => Tryz.strings_HasPrefix (s.extract p s.size) ⟨#[45, 45]⟩ w
  rw [ext_end, show (⟨#[45, 45]⟩ : ByteArray).data.toList = [45, 45] from rfl, hc] at CP
  rw [stp_number _ r hrL hbl hc hl hd]
  obtain ⟨n, hn⟩ : ∃ n, spn inNm (LD s p) = n := ⟨_, rfl⟩
  rw [hn]
  obtain ⟨e0, he0⟩ : ∃ e0, W.parE ((LD s p).take n) = e0 := ⟨_, rfl⟩
  obtain ⟨v0, hv0⟩ : ∃ v0, W.parN ((LD s p).take n) = v0 := ⟨_, rfl⟩
  have CS := number_any b B s ts V h p hp hs hts e0 v0 n hn he0 hv0
  rw [he0, hv0]
  clear hr hrL hbl hc hn he0 hv0
  by_cases hz : e0 = 0
  · rw [if_neg (by simpa using hz)]
    go_enter Tryz.func85, Tryz.ntmps85
    go_wp2_with (first
      | (go_at_call 111; refine (CP _).mono ?_; rintro e w' ⟨rfl, rfl⟩)
      | (go_at_call 114; refine (letter_any _ _).mono ?_; rintro e w' ⟨rfl, rfl⟩)
      | (go_at_call 116; refine (digit_any _ _).mono ?_; rintro e w' ⟨rfl, rfl⟩)
      | (go_at_call 117; refine CS.mono ?_; rintro e w' ⟨_, hA⟩; obtain ⟨he, h1, h2⟩ := hA hz; subst he))
    go_ret
    exact ⟨rfl, h1, h2⟩
  · rw [if_pos hz]
    go_enter Tryz.func85, Tryz.ntmps85
    go_wp2_with (first
      | (go_at_call 111; refine (CP _).mono ?_; rintro e w' ⟨rfl, rfl⟩)
      | (go_at_call 114; refine (letter_any _ _).mono ?_; rintro e w' ⟨rfl, rfl⟩)
      | (go_at_call 116; refine (digit_any _ _).mono ?_; rintro e w' ⟨rfl, rfl⟩)
      | (go_at_call 117; refine CS.mono ?_; rintro e w' ⟨hA, _⟩; obtain ⟨he, h2⟩ := hA hz; unfold refu at he; subst he))
    exact ⟨rfl, rfl, h2⟩
set_option maxRecDepth 20000 in
set_option maxHeartbeats 2000000 in
theorem take_quote (b B : Nat) (s : ByteArray) (ts : List Tok) (V : World) (h : SC b B s ts V) (p : Nat) (hp : p < s.size) (hs : s.size ≤ 20000) (hts : ts.length ≤ p) (r : Nat) (hr : rn s p = r) (hbl : ¬ (r = 32 ∨ r = 9 ∨ r = 10 ∨ r = 13)) (hc : Lib.hasPrefix (LD s p) [45, 45] = false) (hl : letB r = false) (hd : digB r = false) (hq : r = 39 ∨ r = 34) :
    Calls Tryz.prog 85 #[.pointer (some ⟨b, 0, none⟩), .int .i64 p, .int .i32 r] V fun e W' => TO b B s ts V p (stp (LD s p)) e W' := by
  have _ := (⟨hp, hs, hts⟩ : _ ∧ _ ∧ _)
  have hsrc := h.src
  have hB := h.lt
  have hrl : r ≤ 1114111 := by rw [← hr]; exact rn_le s p
  have hrL : rnL (LD s p) = r := by rw [← hr, rn_drop]; rfl
  have b1 : ((r : Int) == 32) = false := by rw [beq_eq_false_iff_ne]; omega
  have b2 : ((r : Int) == 9) = false := by rw [beq_eq_false_iff_ne]; omega
  have b3 : ((r : Int) == 10) = false := by rw [beq_eq_false_iff_ne]; omega
  have b4 : ((r : Int) == 13) = false := by rw [beq_eq_false_iff_ne]; omega
  have CP := fun w => Tryz.strings_HasPrefix (s.extract p s.size) ⟨#[45, 45]⟩ w
  rw [ext_end, show (⟨#[45, 45]⟩ : ByteArray).data.toList = [45, 45] from rfl, hc] at CP
  rw [stp_quote _ r hrL hbl hc hl hd hq]
  obtain ⟨c, hcc⟩ := LD_cons s p hp
  have hcr : c.toNat = r := rn_head s p c _ hcc r (by omega) hr
  rw [hcc]
  simp only [List.headD_cons, List.drop_succ_cons, List.drop_zero]
  have CQ := quoted_any b B s ts V h p hp hs (by omega) c r hcr hq
  obtain ⟨R, hR⟩ : ∃ R, qt c (LD s (p + 1)) 1 [] = R := ⟨_, rfl⟩
  rw [hR] at CQ ⊢
  clear hr hrL hcc hcr hR hbl hc hl hd b1 b2 b3 b4
  have l1 : letB 39 = false := by decide
  have l2 : digB 39 = false := by decide
  have l3 : letB 34 = false := by decide
  have l4 : digB 34 = false := by decide
  rcases hq with rfl | rfl
  all_goals
    simp only [Int.cast_ofNat_Int] at CQ
    cases R with
    | ok v n =>
      go_enter Tryz.func85, Tryz.ntmps85
      go_wp2_with (first
        | (go_at_call 111; refine (CP _).mono ?_; rintro e w' ⟨rfl, rfl⟩)
        | (go_at_call 114; refine (letter_any _ _).mono ?_; rintro e w' ⟨rfl, rfl⟩)
        | (go_at_call 116; refine (digit_any _ _).mono ?_; rintro e w' ⟨rfl, rfl⟩)
        | (go_at_call 118; refine CQ.mono ?_; rintro e w' ⟨rfl, h1, h2⟩))
      go_ret
      exact ⟨rfl, h1, h2⟩
    | bad d n =>
      go_enter Tryz.func85, Tryz.ntmps85
      go_wp2_with (first
        | (go_at_call 111; refine (CP _).mono ?_; rintro e w' ⟨rfl, rfl⟩)
        | (go_at_call 114; refine (letter_any _ _).mono ?_; rintro e w' ⟨rfl, rfl⟩)
        | (go_at_call 116; refine (digit_any _ _).mono ?_; rintro e w' ⟨rfl, rfl⟩)
        | (go_at_call 118; refine CQ.mono ?_; rintro e w' ⟨he, h2⟩; unfold refu at he; subst he))
      exact ⟨rfl, rfl, h2⟩
set_option maxRecDepth 20000 in
set_option maxHeartbeats 2000000 in
theorem take_sign (b B : Nat) (s : ByteArray) (ts : List Tok) (V : World) (h : SC b B s ts V) (p : Nat) (hp : p < s.size) (hs : s.size ≤ 20000) (hts : ts.length ≤ p) (r : Nat) (hr : rn s p = r) (hbl : ¬ (r = 32 ∨ r = 9 ∨ r = 10 ∨ r = 13)) (hc : Lib.hasPrefix (LD s p) [45, 45] = false) (hl : letB r = false) (hd : digB r = false) (hq : ¬ (r = 39 ∨ r = 34)) :
    Calls Tryz.prog 85 #[.pointer (some ⟨b, 0, none⟩), .int .i64 p, .int .i32 r] V fun e W' => TO b B s ts V p (stp (LD s p)) e W' := by
  have _ := (⟨hp, hs, hts⟩ : _ ∧ _ ∧ _)
  have hsrc := h.src
  have hB := h.lt
  have hrl : r ≤ 1114111 := by rw [← hr]; exact rn_le s p
  have hrL : rnL (LD s p) = r := by rw [← hr, rn_drop]; rfl
  have b1 : ((r : Int) == 32) = false := by rw [beq_eq_false_iff_ne]; omega
  have b2 : ((r : Int) == 9) = false := by rw [beq_eq_false_iff_ne]; omega
  have b3 : ((r : Int) == 10) = false := by rw [beq_eq_false_iff_ne]; omega
  have b4 : ((r : Int) == 13) = false := by rw [beq_eq_false_iff_ne]; omega
  have CP := fun w => Tryz.strings_HasPrefix (s.extract p s.size) ⟨#[45, 45]⟩ w
  rw [ext_end, show (⟨#[45, 45]⟩ : ByteArray).data.toList = [45, 45] from rfl, hc] at CP
  rw [stp_sign _ r hrL hbl hc hl hd hq]
  have b5 : ((r : Int) == 39) = false := by rw [beq_eq_false_iff_ne]; omega
  have b6 : ((r : Int) == 34) = false := by rw [beq_eq_false_iff_ne]; omega
  obtain ⟨n, hn⟩ : ∃ n, sgz (LD s p) = n := ⟨_, rfl⟩
  have CS := sign_any b B s ts V h p hp hs hts n hn
  rw [hn]
  clear hr hrL hbl hc hq hn
  by_cases hz : n = 0
  · rw [if_pos hz]
    go_enter Tryz.func85, Tryz.ntmps85
    go_wp2_with (first
      | (go_at_call 111; refine (CP _).mono ?_; rintro e w' ⟨rfl, rfl⟩)
      | (go_at_call 114; refine (letter_any _ _).mono ?_; rintro e w' ⟨rfl, rfl⟩)
      | (go_at_call 116; refine (digit_any _ _).mono ?_; rintro e w' ⟨rfl, rfl⟩)
      | (go_at_call 119; refine CS.mono ?_; rintro e w' ⟨hA, _⟩; obtain ⟨he, h2⟩ := hA hz; unfold refu at he; subst he))
    exact ⟨rfl, rfl, h2⟩
  · rw [if_neg hz]
    go_enter Tryz.func85, Tryz.ntmps85
    go_wp2_with (first
      | (go_at_call 111; refine (CP _).mono ?_; rintro e w' ⟨rfl, rfl⟩)
      | (go_at_call 114; refine (letter_any _ _).mono ?_; rintro e w' ⟨rfl, rfl⟩)
      | (go_at_call 116; refine (digit_any _ _).mono ?_; rintro e w' ⟨rfl, rfl⟩)
      | (go_at_call 119; refine CS.mono ?_; rintro e w' ⟨_, hA⟩; obtain ⟨he, h1, h2⟩ := hA hz; subst he))
    go_ret
    exact ⟨rfl, h1, h2⟩
theorem take_any (b B : Nat) (s : ByteArray) (ts : List Tok) (V : World) (h : SC b B s ts V) (p : Nat) (hp : p < s.size) (hs : s.size ≤ 20000) (hts : ts.length ≤ p) (r : Nat) (hr : rn s p = r) :
    Calls Tryz.prog 85 #[.pointer (some ⟨b, 0, none⟩), .int .i64 p, .int .i32 r] V fun e W' => TO b B s ts V p (stp (LD s p)) e W' := by
  by_cases hbl : r = 32 ∨ r = 9 ∨ r = 10 ∨ r = 13
  · exact take_blank b B s ts V h p hp hs hts r hr hbl
  cases hc : Lib.hasPrefix (LD s p) [45, 45]
  · cases hl : letB r
    · cases hd : digB r
      · by_cases hq : r = 39 ∨ r = 34
        · exact take_quote b B s ts V h p hp hs hts r hr hbl hc hl hd hq
        · exact take_sign b B s ts V h p hp hs hts r hr hbl hc hl hd hq
      · exact take_number b B s ts V h p hp hs hts r hr hbl hc hl hd
    · exact take_name b B s ts V h p hp hs hts r hr hbl hc hl
  · exact take_comment b B s ts V h p hp hs hts r hr hbl hc
end Go.Proofs.YtmejlldabdjpjaaGreat

/- Plain facts (no program in it): whatever stands next in a text ends where a rune ends. -/
namespace Go.Proofs.YtmejlldabdjpjaaGreat
open Go.RowKit
/-- From byte p one comes to byte q, rune by rune. -/
inductive Ch (s : ByteArray) : Nat → Nat → Prop
  | refl (p : Nat) : Ch s p p
  | step (p q : Nat) : p < s.size → Ch s (p + wd s p) q → Ch s p q
theorem Ch.le {s : ByteArray} {p q : Nat} (h : Ch s p q) : p ≤ q := by
  induction h with
  | refl => exact Nat.le_refl _
  | step p q _ _ ih => omega
theorem Ch.trans {s : ByteArray} {p q r : Nat} (h : Ch s p q) (k : Ch s q r) : Ch s p r := by
  induction h with
  | refl => exact k
  | step p q hp _ ih => exact .step p r hp (ih k)
theorem Ch.out {s : ByteArray} {p q : Nat} (h : Ch s p q) (hn : p ≠ q) : p < s.size ∧ Ch s (p + wd s p) q := by
  cases h with
  | refl => exact absurd rfl hn
  | step _ _ hp k => exact ⟨hp, k⟩
theorem Ch.end {s : ByteArray} {p q : Nat} (h : Ch s p q) (hp : ¬ p < s.size) : q = p := by
  cases h with
  | refl => rfl
  | step _ _ h1 _ => exact absurd h1 hp
theorem ch_asc (s : ByteArray) : ∀ (n p : Nat), p + n ≤ s.size → (∀ i c, p ≤ i → i < p + n → (LD s i).head? = some c → c.toNat < 128) → Ch s p (p + n)
  | 0, p, _, _ => .refl p
  | n + 1, p, h, hx => by
    obtain ⟨c, hc⟩ := LD_cons s p (by omega)
    have h1 := hx p c (Nat.le_refl _) (by omega) (by rw [hc]; rfl)
    have hw : wd s p = 1 := by
      rw [wd_drop]
      show wdL (LD s p) = 1
      rw [hc]; exact (asc c _ h1).2
    refine .step _ _ (by omega) ?_
    rw [hw]
    have := ch_asc s n (p + 1) (by omega) (fun i c h2 h3 => hx i c (by omega) (by omega))
    have e : p + 1 + n = p + (n + 1) := by omega
    rw [e] at this
    exact this
theorem ch_spn (s : ByteArray) (f : Nat → Bool) (p : Nat) : Ch s p (p + spn f (LD s p)) := by
  by_cases h : p < s.size
  · cases hf : f (rnL (LD s p))
    · rw [spn_no f _ (LD_ne s p h) hf]; exact .refl p
    · rw [spn_yes f _ (LD_ne s p h) hf, LD_drop]
      have hw : wdL (LD s p) = wd s p := (wd_drop s p).symm
      rw [hw]
      have := ch_spn s f (p + wd s p)
      rw [Nat.add_assoc] at this
      exact .step _ _ h this
  · rw [LD_nil s p h, spn_nil]; exact .refl p
termination_by s.size - p
decreasing_by have := wd_pos s p; omega
theorem ch_qt (s : ByteArray) (q : UInt8) (hq : q.toNat < 128) (o a : Nat) (acc : List UInt8) (v : List UInt8) (n : Nat) (hoa : o < a) (h : qt q (LD s a) (a - o) acc = .ok v n) : Ch s a (o + n) := by
  by_cases ha : a < s.size
  · obtain ⟨c, hc⟩ := LD_cons s a ha
    have hwd : wd s a = wdL (LD s a) := wd_drop s a
    have hwl := wd_le s a ha
    have hwp := wd_pos s a
    rcases Nat.lt_or_ge c.toNat 128 with h1 | h1
    · have hw1 : wd s a = 1 := by rw [hwd, hc]; exact (asc c _ h1).2
      rw [hc] at h
      by_cases h10 : c.toNat = 10
      · rw [qt_nl q c _ _ _ h10] at h; cases h
      by_cases hcq : c = q
      · rw [qt_end q c _ _ _ hcq (by rw [← hcq]; exact h10)] at h
        split at h
        · cases h
        · cases h
          refine .step _ _ ha ?_
          rw [hw1]
          have e : o + (a - o + 1) = a + 1 := by omega
          rw [e]; exact .refl _
      by_cases h92 : c.toNat = 92
      · rw [qt_esc q c _ _ _ h92 (fun e => hcq (UInt8.toNat_inj.1 (by omega)))] at h
        split at h
        · cases h
        · split at h
          · cases h
          · rename_i k1 k2
            obtain ⟨t1, t2⟩ := esc_take (LD s (a + 1))
            rw [LD_len] at t1
            rw [LD_drop] at h
            have e : a - o + 1 + (esc (LD s (a + 1))).2 = a + 1 + (esc (LD s (a + 1))).2 - o := by omega
            rw [e] at h
            have ih := ch_qt s q hq o (a + 1 + (esc (LD s (a + 1))).2) _ v n (by omega) h
            refine .step _ _ ha ?_
            rw [hw1]
            refine Ch.trans (ch_asc s (esc (LD s (a + 1))).2 (a + 1) (by omega) (fun i d g1 g2 g3 => ?_)) ih
            apply t2
            have h4 : (LD s (a + 1)).drop (i - (a + 1)) = LD s i := by rw [LD_drop]; congr 1; omega
            have h6 : d ∈ ((LD s (a + 1)).take (esc (LD s (a + 1))).2).drop (i - (a + 1)) := by
              rw [List.drop_take, h4]
              cases hL : LD s i with
              | nil => rw [hL] at g3; cases g3
              | cons y z =>
                rw [hL] at g3
                have : y = d := by simpa using g3
                subst this
                obtain ⟨m, hm⟩ : ∃ m, (esc (LD s (a + 1))).2 - (i - (a + 1)) = m + 1 := ⟨(esc (LD s (a + 1))).2 - (i - (a + 1)) - 1, by omega⟩
                rw [hm]; simp
            exact List.mem_of_mem_drop h6
      · have hp := qt_pass q 1 (c :: LD s (a + 1)) (a - o) acc (by simp) (fun x hx => by
          simp at hx; subst hx; exact ⟨h10, hcq, h92⟩)
        rw [hp] at h
        simp only [List.drop_succ_cons, List.drop_zero] at h
        have e : a - o + 1 = a + 1 - o := by omega
        rw [e] at h
        have ih := ch_qt s q hq o (a + 1) _ v n (by omega) h
        refine .step _ _ ha ?_
        rw [hw1]; exact ih
    · have hb := hi_bytes c (LD s (a + 1)) h1
      rw [← hc, ← hwd] at hb
      have hp := qt_pass q (wd s a) (LD s a) (a - o) acc (by rw [LD_len]; omega) (fun x hx => by
        have := hb x hx
        exact ⟨by omega, fun e => by rw [e] at this; omega, by omega⟩)
      rw [hp, LD_drop] at h
      have e : a - o + wd s a = a + wd s a - o := by omega
      rw [e] at h
      exact .step _ _ ha (ch_qt s q hq o (a + wd s a) _ v n (by omega) h)
  · rw [LD_nil s a ha, qt_nil] at h; cases h
termination_by s.size - a
decreasing_by all_goals omega
theorem ch_sgz (s : ByteArray) (p : Nat) : Ch s p (p + sgz (LD s p)) := by
  obtain ⟨h1, h2⟩ := sgz_le (LD s p)
  rw [LD_len] at h2
  by_cases hz : sgz (LD s p) = 0
  · rw [hz]; exact .refl p
  · refine ch_asc s (sgz (LD s p)) p (by omega) (fun i c g1 g2 g3 => ?_)
    unfold sgz at g2 hz
    have h4 : (LD s p).drop (i - p) = LD s i := by rw [LD_drop]; congr 1; omega
    split at g2
    · rename_i hm
      have hmem : (LD s p).take 2 ∈ sgn2 := by simpa using hm
      have hall : ∀ x ∈ (LD s p).take 2, x.toNat < 128 := by
        simp only [sgn2, List.mem_cons, List.not_mem_nil, or_false] at hmem
        rcases hmem with e | e | e | e | e | e <;> rw [e] <;> decide
      apply hall
      have h6 : c ∈ ((LD s p).take 2).drop (i - p) := by
        rw [List.drop_take, h4]
        cases hL : LD s i with
        | nil => rw [hL] at g3; cases g3
        | cons y z =>
          rw [hL] at g3
          have : y = c := by simpa using g3
          subst this
          obtain ⟨m, hm⟩ : ∃ m, 2 - (i - p) = m + 1 := ⟨2 - (i - p) - 1, by omega⟩
          rw [hm]; simp
      exact List.mem_of_mem_drop h6
    · split at g2
      · rename_i hm
        have : i = p := by omega
        subst this
        cases hL : LD s i with
        | nil => rw [hL] at g3; cases g3
        | cons y z =>
          rw [hL] at g3 hm
          have : y = c := by simpa using g3
          subst this
          have hmem : y ∈ sgn1 := by simpa using hm
          revert hmem
          have hd : ∀ x ∈ sgn1, x.toNat < 128 := by decide
          exact hd y
      · omega
/-- Whatever stands next ends where a rune ends, and has the first rune whole. -/
theorem ch_stp (s : ByteArray) (p : Nat) (hp : p < s.size) : (∀ n, stp (LD s p) = .skip n → Ch s (p + wd s p) (p + n)) ∧ (∀ k t v n, stp (LD s p) = .tok k t v n → Ch s (p + wd s p) (p + n)) := by
  have hne := LD_ne s p hp
  have hpos := stp_pos (LD s p) hne
  have key : ∀ n, 1 ≤ n → Ch s p (p + n) → Ch s (p + wd s p) (p + n) := fun n hn h => (h.out (by omega)).2
  obtain ⟨c, hc⟩ := LD_cons s p hp
  constructor
  · intro n h
    have h1 := (hpos.1 n h).1
    refine key n h1 ?_
    unfold stp at h
    split at h
    · rename_i hb
      cases h
      have hr : rnL (LD s p) < 128 := by omega
      rw [hc] at hr
      have hw : wd s p = 1 := by
        rw [wd_drop]; show wdL (LD s p) = 1
        rw [hc]; exact (rn_lt c _ hr).2
      refine .step _ _ hp ?_
      rw [hw]; exact .refl _
    · split at h
      · cases h; exact ch_spn s _ p
      · split at h
        · split at h <;> cases h
        · split at h
          · split at h <;> cases h
          · split at h
            · split at h <;> cases h
            · split at h <;> cases h
  · intro k t v n h
    have h1 := (hpos.2 k t v n h).1
    refine key n h1 ?_
    unfold stp at h
    split at h
    · cases h
    · split at h
      · cases h
      · split at h
        · split at h
          · cases h
          · cases h; exact ch_spn s _ p
        · split at h
          · split at h
            · cases h
            · cases h; exact ch_spn s _ p
          · split at h
            · rename_i hq
              split at h
              · rename_i v' n' hqt
                cases h
                have hr : rnL (LD s p) < 128 := by omega
                have hr2 := hr
                rw [hc] at hr2
                have hcr := rn_lt c _ hr2
                rw [← hc] at hcr
                have hw : wd s p = 1 := by rw [wd_drop]; exact hcr.2
                rw [hc] at hqt
                simp only [List.headD_cons, List.drop_succ_cons, List.drop_zero] at hqt
                have e : p + 1 - p = 1 := by omega
                have := ch_qt s c (by omega) p (p + 1) [] _ _ (by omega) (by rw [e]; exact hqt)
                refine .step _ _ hp ?_
                rw [hw]; exact this
              · cases h
            · split at h
              · cases h
              · cases h; exact ch_sgz s p
end Go.Proofs.YtmejlldabdjpjaaGreat

/- The walk of renamed: the text with each name a written zzz. -/
import Derived.Test.YtmejlldabdjpjaaGreatCg36
namespace Go.Proofs.YtmejlldabdjpjaaGreat
open Go.RowKit

def RnP (s : ByteArray) (w : World) (e : Ending) (w' : World) : Prop := (∃ S ok, e = .returned (.tuple #[.string S, .bool ok]) ∧ (ok = true → S.data.toList = rnS s.data.toList ∧ ∀ t ∈ (scT s.data.toList).1, t.k = 1 → t.t ≠ zzz)) ∧ Below w.heap.size w w'
theorem RnP.no {s : ByteArray} {w w' : World} (S : ByteArray) (h : Below w.heap.size w w') : RnP s w (.returned (.tuple #[.string S, .bool false])) w' := ⟨⟨_, _, rfl, fun h => by cases h⟩, h⟩
theorem scT_rw (l : List UInt8) (hl : l.length ≤ 3000) (ts : List Tok) (p : Int) (h : scT l = (ts, 0, p)) : gp l ts 0 ∧ rw l ts 0 = rnS l := by
  unfold scT at h
  rw [if_neg (by omega)] at h
  cases hs : scn l 0 [] with
  | ok us =>
    rw [hs] at h
    simp only [Prod.mk.injEq] at h
    obtain ⟨rfl, -, -⟩ := h
    obtain ⟨vs, h1, h2⟩ := rw_rnS l l.length 0 [] (by omega) (by omega) us (by rw [List.drop_zero]; exact hs)
    rw [List.nil_append] at h1
    subst h1
    have := h2 0 (Nat.le_refl _)
    simpa using this
  | bad c q =>
    rw [hs] at h
    simp only [Prod.mk.injEq] at h
    exact absurd h.2.1 (scn_badc l.length l 0 [] (Nat.le_refl _) c q hs).1
theorem dl (s : ByteArray) : s.data.toList.length = s.size := Array.length_toList
theorem ext_list (s : ByteArray) (a b : Nat) : (s.extract a b).data.toList = (s.data.toList.drop a).take (b - a) := by
  simp [ByteArray.data_extract, Array.toList_extract]
theorem app_list (a b : ByteArray) : (a ++ b).data.toList = a.data.toList ++ b.data.toList := by simp
/-- What the loop keeps. -/
structure Rk (s : ByteArray) (ts : List Tok) (k A : Nat) (O : ByteArray) : Prop where
  eq : O.data.toList ++ rw s.data.toList (ts.drop k) A = rnS s.data.toList
  gp : gp s.data.toList (ts.drop k) A
  nz : ∀ t ∈ ts.take k, t.k = 1 → t.t ≠ zzz
theorem Rk.sz {s : ByteArray} {ts : List Tok} {k A : Nat} {O : ByteArray} (h : Rk s ts k A O) (hs : s.size ≤ 3000) : O.size ≤ 9000 := by
  have e := congrArg List.length h.eq
  have l := rnS_len s.data.toList.length s.data.toList (Nat.le_refl _)
  have e2 := dl O
  have e3 := dl s
  rw [List.length_append] at e
  omega
theorem Rk.get {s : ByteArray} {ts : List Tok} {k A : Nat} {O : ByteArray} (h : Rk s ts k A O) {t : Tok} (ht : ts[k]? = some t) : A ≤ t.p ∧ t.p ≤ s.size ∧ (isA t → t.p + 1 ≤ s.size) ∧
    (isA t → Rk s ts (k + 1) (t.p + 1) (O ++ (s.extract A t.p ++ ⟨#[122, 122, 122]⟩))) ∧ (¬ isA t → (t.k = 1 → t.t ≠ zzz) → Rk s ts (k + 1) A O) := by
  obtain ⟨hb, he⟩ := List.getElem?_eq_some_iff.1 ht
  have hd : ts.drop k = t :: ts.drop (k + 1) := by rw [List.drop_eq_getElem_cons hb, he]
  have htk : ts.take (k + 1) = ts.take k ++ [t] := by rw [List.take_add_one, ht]; rfl
  have e3 := dl s
  have g := h.gp
  have q := h.eq
  rw [hd] at g q
  obtain ⟨g1, g2, g3, g4⟩ := g
  rw [e3] at g2 g3
  refine ⟨g1, g2, g3, fun hA => ⟨?_, ?_, ?_⟩, fun hA hz => ⟨?_, ?_, ?_⟩⟩
  · rw [app_list, app_list, ext_list, ← q]
    show _ = _ ++ (if isA t then _ else _)
    rw [if_pos hA]
    simp only [List.append_assoc]
    rfl
  · rw [if_pos hA] at g4; exact g4
  · intro x hx
    rw [htk] at hx
    rcases List.mem_append.1 hx with h1 | h1
    · exact h.nz x h1
    · rw [List.mem_singleton.1 h1]; intro _; rw [hA.2]; decide
  · rw [← q]
    show _ = _ ++ (if isA t then _ else _)
    rw [if_neg hA]
  · rw [if_neg hA] at g4; exact g4
  · intro x hx
    rw [htk] at hx
    rcases List.mem_append.1 hx with h1 | h1
    · exact h.nz x h1
    · rw [List.mem_singleton.1 h1]; exact hz
set_option maxRecDepth 20000 in
set_option maxHeartbeats 4000000 in
theorem renamed_any (s : ByteArray) (w : World) (hs : s.size ≤ 3000) : Calls Tryz.prog 20 #[.string s, .string ⟨#[97]⟩, .string ⟨#[122, 122, 122]⟩] w (RnP s w) := by
  have CS := Scan_any s w (by omega)
  obtain ⟨R, hR⟩ : ∃ R, scT s.data.toList = R := ⟨_, rfl⟩
  rw [hR] at CS
  have HR : Hid (scT s.data.toList = R) := hR
  clear hR
  obtain ⟨ts, c, p⟩ := R
  simp only at CS
  go_enter Tryz.func20, Tryz.ntmps20
  go_wp2_with fail
  refine CS.mono ?_
  rintro e w1 ⟨v, rfl, ho, hb⟩
  obtain ⟨a, cp, rfl, hmax, hrow⟩ := tok_row ho
  have HB1 : Hid (Below w.heap.size w (w1.alloc (.cells #[.int .i64 c, .int .i64 p] 28))) := hb.alloc hb.size _
  have HRw : Hid (∀ k t, ts[k]? = some t → ∃ g, a = some ⟨g, 0, none⟩ ∧ (w1.alloc (.cells #[.int .i64 c, .int .i64 p] 28)).cell? ⟨g, k * 4, none⟩ = some (.int .i64 t.k) ∧ (w1.alloc (.cells #[.int .i64 c, .int .i64 p] 28)).cell? ⟨g, k * 4 + 1, none⟩ = some (.string ⟨t.t.toArray⟩) ∧ (w1.alloc (.cells #[.int .i64 c, .int .i64 p] 28)).cell? ⟨g, k * 4 + 3, none⟩ = some (.int .i64 t.p)) := fun k t hk => by
    obtain ⟨g, e1, e2, e3, e4, _, e5⟩ := hrow k t hk
    exact ⟨g, e1, alloc_cell e2 e3 _, alloc_cell e2 e4 _, alloc_cell e2 e5 _⟩
  obtain ⟨n, hn⟩ : ∃ n, ts.length = n := ⟨_, rfl⟩
  have HN : Hid (ts.length = n) := hn
  rw [hn] at hmax ⊢
  clear CS ho hb hrow hn
  by_cases hc : c = 0
  · subst hc
    have HK0 : Hid (Rk s ts 0 0 ⟨#[]⟩) := by
      have e3 := dl s
      have r := scT_rw s.data.toList (by omega) ts p HR.out
      exact ⟨by simpa using r.2, by simpa using r.1, fun t ht => by simp at ht⟩
    go_wp2
    obtain ⟨W2, hW2⟩ : ∃ W2, w1.alloc (.cells #[.int .i64 0, .int .i64 p] 28) = W2 := ⟨_, rfl⟩
    rw [hW2] at HB1 HRw
    go_loopw [10, 11, 12] (fun ov av iv wx => wx = W2 ∧ ∃ (k A : Nat) (O : ByteArray), ov = .string O ∧ av = .int .i64 (A : Nat) ∧ iv = .int .i64 (k : Nat) ∧ k ≤ n ∧ Hid (Rk s ts k A O)) (fun _ _ iv _ => n - (intOf iv).toNat)
    case atStart => exact ⟨hW2, 0, 0, ⟨#[]⟩, rfl, rfl, rfl, by omega, HK0⟩
    case round =>
      obtain ⟨rfl, k, A, O, rfl, rfl, rfl, hk, HK⟩ := hrel
      clear hW2 HK0
      have hO : O.size ≤ 9000 := HK.out.sz hs
      by_cases hlt : k < n
      · have h1 : (k : Int) < (n : Int) := by omega
        have wk : IntKind.i64.wrap ((k : Int) + 1) = (k : Int) + 1 := by rw [IntKind.wrap_i64]; omega
        have hms : n - (k + 1) < n - k := by omega
        obtain ⟨t, ht⟩ : ∃ t, ts[k]? = some t := ⟨ts[k]'(by rw [HN.out]; exact hlt), List.getElem?_eq_getElem _⟩
        obtain ⟨g, rfl, m0, m1, m3⟩ := HRw.out k t ht
        obtain ⟨b1, b2, b3, r1, r2⟩ := HK.out.get ht
        have HR1 : Hid (isA t → Rk s ts (k + 1) (t.p + 1) (O ++ (s.extract A t.p ++ ⟨#[122, 122, 122]⟩))) := r1
        have HR2 : Hid (¬ isA t → (t.k = 1 → t.t ≠ zzz) → Rk s ts (k + 1) A O) := r2
        have HR3 : Hid (isA t → t.p + 1 ≤ s.size) := b3
        clear ht r1 r2 b3 HK
        obtain ⟨tk, tt, tv, tp⟩ := t
        simp only at m0 m1 m3 b1 b2 HR1 HR2 HR3
        have c1 : ¬ (tp : Int) < (A : Int) := by omega
        have c2 : ¬ (s.size : Int) < (tp : Int) := by omega
        have w1' : IntKind.i64.wrap ((s.size : Int) - (tp : Int)) = (s.size : Int) - (tp : Int) := by rw [IntKind.wrap_i64]; omega
        have w2' : IntKind.i64.wrap ((tp : Int) + 1) = (tp : Int) + 1 := by rw [IntKind.wrap_i64]; omega
        by_cases hk1 : tk = 1
        · subst hk1
          by_cases ez : tt = zzz
          · subst ez
            unfold zzz at m1
            go_wp2
            go_ret2
            exact RnP.no _ HB1.out
          · by_cases ea : tt = [97]
            · subst ea
              have HN2 := HR1.out ⟨rfl, rfl⟩
              have b3 := HR3.out ⟨rfl, rfl⟩
              have c3 : (1 : Int) ≤ (s.size : Int) - (tp : Int) := by omega
              have HN3 : Hid (Rk s ts (k + 1) (tp + 1) (O ++ (s.extract A tp ++ ⟨#[122, 122, 122]⟩))) := HN2
              clear HN2 HR1 HR2 HR3
              go_wp2
              go_roundw
              case rel => exact ⟨trivial, k + 1, tp + 1, _, rfl, by go_num, by go_num, by omega, HN3⟩
              case measure => first | omega | (simp only [intOf]; omega) | (simp; omega)
            · have HT : Hid (Rk s ts (k + 1) A O) := HR2.out (fun h => ea h.2) (fun _ => ez)
              obtain ⟨X, hX⟩ : ∃ X : ByteArray, (⟨tt.toArray⟩ : ByteArray) = X := ⟨_, rfl⟩
              have hXt : X.toList = tt := by rw [ByteArray.toList_eq, ← hX]
              have q1 : ¬ X.toList = [122, 122, 122] := by rw [hXt]; exact ez
              have q2 : ¬ X.toList = [97] := by rw [hXt]; exact ea
              have q3 : (X.toList == [122, 122, 122]) = false := by simpa using q1
              have q4 : (X.toList == [97]) = false := by simpa using q2
              rw [hX] at m1
              clear hXt hX ez ea HR1 HR2 HR3
              go_wp2
              go_roundw
              case rel => exact ⟨trivial, k + 1, A, O, rfl, rfl, by go_num, by omega, HT⟩
              case measure => first | omega | (simp only [intOf]; omega) | (simp; omega)
        · have HT : Hid (Rk s ts (k + 1) A O) := HR2.out (fun h => hk1 h.1) (fun h => absurd h hk1)
          obtain ⟨X, hX⟩ : ∃ X : ByteArray, (⟨tt.toArray⟩ : ByteArray) = X := ⟨_, rfl⟩
          rw [hX] at m1
          clear hX HR1 HR2 HR3
          go_wp2
          go_roundw
          case rel => exact ⟨trivial, k + 1, A, O, rfl, rfl, by go_num, by omega, HT⟩
          case measure => first | omega | (simp only [intOf]; omega) | (simp; omega)
      · have h1 : ¬ (k : Int) < (n : Int) := by omega
        have hdr : ts.drop k = [] := List.drop_of_length_le (by rw [HN.out]; omega)
        have htk : ts.take k = ts := List.take_of_length_le (by rw [HN.out]; omega)
        have hA : A ≤ s.size := by have g := HK.out.gp; rw [hdr] at g; have : A ≤ s.data.toList.length := g; have e3 := dl s
                                   omega
        have HT : Hid ((O ++ s.extract A s.size).data.toList = rnS s.data.toList ∧ ∀ t ∈ (scT s.data.toList).1, t.k = 1 → t.t ≠ zzz) := ⟨by
          have q := HK.out.eq
          rw [hdr] at q
          rw [app_list, extract_eq]
          exact q, by rw [HR.out]; have z := HK.out.nz; rw [htk] at z; exact z⟩
        clear hdr htk HK
        go_wp2
        go_ret2
        exact ⟨⟨_, _, rfl, fun _ => HT.out⟩, HB1.out⟩
  · have hc' : (c == 0) = false := by simpa using hc
    go_wp2
    go_ret2
    exact RnP.no _ HB1.out
end Go.Proofs.YtmejlldabdjpjaaGreat

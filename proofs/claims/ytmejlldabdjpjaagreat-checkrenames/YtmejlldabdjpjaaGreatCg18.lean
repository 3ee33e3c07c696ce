/- The walks of name, number and sign: a token at its place, or the refusal. -/
import Derived.Test.YtmejlldabdjpjaaGreatCg02
import Derived.Test.YtmejlldabdjpjaaGreatCg01
import Derived.Lib.AppendStr
import Derived.Lib.UnsafeStr
import Derived.Deep.RegionLaw
import Derived.Laws.BytesArg
import Derived.BigRegion
namespace Go.Proofs.YtmejlldabdjpjaaGreat
open Go.RowKit
/-- The text from a byte on. -/
def LD (s : ByteArray) (p : Nat) : List UInt8 := s.data.toList.drop p
theorem LD_len (s : ByteArray) (p : Nat) : (LD s p).length = s.size - p := by unfold LD; rw [List.length_drop, Array.length_toList]; rfl
theorem ext_LD (s : ByteArray) (p n : Nat) : (s.extract p (p + n)).data.toList = (LD s p).take n := by unfold LD; simp
theorem ext_end (s : ByteArray) (p : Nat) : (s.extract p s.size).data.toList = LD s p := Lib.extract_to_end s p
theorem ext_size (s : ByteArray) (p q : Nat) (hs : s.size ≤ 20000) : (s.extract p q).size ≤ maxLen := by rw [ByteArray.size_extract]; unfold maxLen; omega
set_option maxHeartbeats 1000000 in
theorem name_bad (b B : Nat) (s : ByteArray) (ts : List Tok) (W : World) (h : SC b B s ts W) (p : Nat) (hp : p < s.size) (hs : s.size ≤ 20000) (hn : 40 < spn inNm (LD s p)) :
    Calls Tryz.prog 115 #[.pointer (some ⟨b, 0, none⟩), .int .i64 p] W fun e W' => e = refu 14 p ∧ Kp b B W W' := by
  have hsrc := h.src
  have C1 := fun w => span_any (s.extract p s.size) 141 inNm enters52 (fun r w hr => inName_any r w hr) w (by have := ext_size s p s.size hs; unfold maxLen at this; omega)
  rw [ext_end] at C1
  have hl := spn_le inNm (LD s p)
  rw [LD_len] at hl
  obtain ⟨n, hnn⟩ : ∃ n, spn inNm (LD s p) = n := ⟨_, rfl⟩
  rw [hnn] at C1 hn hl
  have hB := h.lt.2
  clear hnn
  go_enter Tryz.func115, Tryz.ntmps115
  go_wp2_with (first | (go_at_call 112; refine (C1 _).mono ?_; rintro e w1 ⟨rfl, hb⟩) | (go_at_call 142; refine (refuse_any _ _ _).mono ?_; rintro e w' ⟨he, rfl⟩; unfold refu at he; subst he))
  exact ⟨rfl, rfl, Kp.of_below hb hB⟩
set_option maxHeartbeats 1000000 in
theorem name_ok (b B : Nat) (s : ByteArray) (ts : List Tok) (W : World) (h : SC b B s ts W) (p : Nat) (hp : p < s.size) (hs : s.size ≤ 20000) (hts : ts.length ≤ p) (hn : ¬ 40 < spn inNm (LD s p)) :
    Calls Tryz.prog 115 #[.pointer (some ⟨b, 0, none⟩), .int .i64 p] W fun e W' => e = .returned (.int .i64 ((p + spn inNm (LD s p) : Nat) : Int)) ∧
      SC b B s (ts ++ [⟨if wordB ((LD s p).take (spn inNm (LD s p))) then 2 else 1, (LD s p).take (spn inNm (LD s p)), 0, p⟩]) W' ∧ Kp b B W W' := by
  have hsrc := h.src
  have C1 := fun w => span_any (s.extract p s.size) 141 inNm enters52 (fun r w hr => inName_any r w hr) w (by have := ext_size s p s.size hs; unfold maxLen at this; omega)
  rw [ext_end] at C1
  have hl := spn_le inNm (LD s p)
  rw [LD_len] at hl
  obtain ⟨n, hnn⟩ : ∃ n, spn inNm (LD s p) = n := ⟨_, rfl⟩
  rw [hnn] at C1 hn hl ⊢
  have hB := h.lt
  have C2 := fun w => isWord_any (s.extract p (p + n)) w
  rw [ext_LD] at C2
  have C3 := fun k w (hw : SC b B s ts w) => add_any b B s ts w hw k 0 p (p + n) (by omega) (by omega) hs (by omega)
  have et : (s.data.toList.drop p).take (p + n - p) = (LD s p).take n := by unfold LD; congr 1; omega
  rw [et] at C3
  clear hnn et
  cases hw : wordB ((LD s p).take n)
  all_goals
    rw [hw] at C2
    go_enter Tryz.func115, Tryz.ntmps115
    go_wp2_with (first
      | (go_at_call 112; refine (C1 _).mono ?_; rintro e w1 ⟨rfl, hb⟩; have h1 := h.below hb; have hsrc1 := h1.src)
      | (go_at_call 143; refine (C2 _).mono ?_; rintro e w' ⟨rfl, rfl⟩)
      | (go_at_call 86; refine (C3 _ _ h1).mono ?_; rintro e w2 ⟨rfl, h2, k2⟩))
    go_ret
    exact ⟨rfl, h2, (Kp.of_below hb hB.2).trans k2⟩
set_option maxHeartbeats 1000000 in
theorem number_any (b B : Nat) (s : ByteArray) (ts : List Tok) (V : World) (h : SC b B s ts V) (p : Nat) (hp : p < s.size) (hs : s.size ≤ 20000) (hts : ts.length ≤ p) (e0 v0 : Int) (n : Nat) (hn : spn inNm (LD s p) = n) (he : W.parE ((LD s p).take n) = e0) (hv : W.parN ((LD s p).take n) = v0) :
    Calls Tryz.prog 117 #[.pointer (some ⟨b, 0, none⟩), .int .i64 p] V fun e W' => (e0 ≠ 0 → e = refu e0 p ∧ Kp b B V W') ∧ (e0 = 0 → e = .returned (.int .i64 ((p + n : Nat) : Int)) ∧ SC b B s (ts ++ [⟨3, (LD s p).take n, v0, p⟩]) W' ∧ Kp b B V W') := by
  have hsrc := h.src
  have C1 := fun w => span_any (s.extract p s.size) 141 inNm enters52 (fun r w hr => inName_any r w hr) w (by have := ext_size s p s.size hs; unfold maxLen at this; omega)
  rw [ext_end] at C1
  have hl := spn_le inNm (LD s p)
  rw [LD_len] at hl
  rw [hn] at C1 hl
  have hB := h.lt
  have C2 := fun w => W.parse_any (s.extract p (p + n)) w (ext_size s p _ hs)
  rw [ext_LD, he, hv] at C2
  have C3 := fun w (hw : SC b B s ts w) => add_any b B s ts w hw 3 v0 p (p + n) (by omega) (by omega) hs (by omega)
  have et : (s.data.toList.drop p).take (p + n - p) = (LD s p).take n := by unfold LD; congr 1; omega
  rw [et] at C3
  clear hn et he hv
  by_cases hz : e0 = 0
  · subst hz
    go_enter Tryz.func117, Tryz.ntmps117
    go_wp2_with (first
      | (go_at_call 112; refine (C1 _).mono ?_; rintro e w1 ⟨rfl, hb⟩; have h1 := h.below hb; have hsrc1 := h1.src)
      | (go_at_call 144; refine (C2 _).mono ?_; rintro e w' ⟨rfl, rfl⟩)
      | (go_at_call 86; refine (C3 _ h1).mono ?_; rintro e w2 ⟨rfl, h2, k2⟩))
    go_ret
    exact ⟨fun hc => absurd rfl hc, fun _ => ⟨rfl, h2, (Kp.of_below hb hB.2).trans k2⟩⟩
  · have hz' : (e0 != 0) = true := by simpa using hz
    go_enter Tryz.func117, Tryz.ntmps117
    go_wp2_with (first
      | (go_at_call 112; refine (C1 _).mono ?_; rintro e w1 ⟨rfl, hb⟩; have h1 := h.below hb; have hsrc1 := h1.src)
      | (go_at_call 144; refine (C2 _).mono ?_; rintro e w' ⟨rfl, rfl⟩)
      | (go_at_call 142; refine (refuse_any _ _ _).mono ?_; rintro e w' ⟨he, rfl⟩; unfold refu at he; subst he))
    exact ⟨rfl, fun _ => ⟨rfl, Kp.of_below hb hB.2⟩, fun hc => absurd hc hz⟩
set_option maxHeartbeats 1000000 in
theorem sign_any (b B : Nat) (s : ByteArray) (ts : List Tok) (V : World) (h : SC b B s ts V) (p : Nat) (hp : p < s.size) (hs : s.size ≤ 20000) (hts : ts.length ≤ p) (n : Nat) (hn : sgz (LD s p) = n) :
    Calls Tryz.prog 119 #[.pointer (some ⟨b, 0, none⟩), .int .i64 p] V fun e W' => (n = 0 → e = refu 4 p ∧ Kp b B V W') ∧ (n ≠ 0 → e = .returned (.int .i64 ((p + n : Nat) : Int)) ∧ SC b B s (ts ++ [⟨5, (LD s p).take n, 0, p⟩]) W' ∧ Kp b B V W') := by
  have hsrc := h.src
  have C1 := fun w => signSize_any (s.extract p s.size) w (by rw [ByteArray.size_extract]; omega) (by have := ext_size s p s.size hs; unfold maxLen at this; omega)
  rw [ext_end, hn] at C1
  have hl := (sgz_le (LD s p))
  rw [LD_len, hn] at hl
  have hB := h.lt
  have C3 := fun w (hw : SC b B s ts w) => add_any b B s ts w hw 5 0 p (p + n) (by omega) (by omega) hs (by omega)
  have et : (s.data.toList.drop p).take (p + n - p) = (LD s p).take n := by unfold LD; congr 1; omega
  rw [et] at C3
  clear hn et
  by_cases hz : n = 0
  · subst hz
    go_enter Tryz.func119, Tryz.ntmps119
    go_wp2_with (first
      | (go_at_call 147; refine (C1 _).mono ?_; rintro e w' ⟨rfl, rfl⟩)
      | (go_at_call 142; refine (refuse_any _ _ _).mono ?_; rintro e w' ⟨he, rfl⟩; unfold refu at he; subst he))
    exact ⟨rfl, fun _ => ⟨rfl, Kp.refl _ _ _⟩, fun hc => absurd rfl hc⟩
  · have hz' : ((n : Int) == 0) = false := by simpa using hz
    go_enter Tryz.func119, Tryz.ntmps119
    go_wp2_with (first
      | (go_at_call 147; refine (C1 _).mono ?_; rintro e w' ⟨rfl, rfl⟩)
      | (go_at_call 86; refine (C3 _ h).mono ?_; rintro e w2 ⟨rfl, h2, k2⟩))
    go_ret
    exact ⟨fun hc => absurd hc hz, fun _ => ⟨rfl, h2, k2⟩⟩
end Go.Proofs.YtmejlldabdjpjaaGreat

/- What is encoded decodes to itself; the walk of the law RunesCodes. -/
namespace Go.Proofs.YtmejlldabdjpjaaGreat
open Go.RowKit
theorem enc_bytes (r : Int) (h : encB r = true) : Utf8.encode r = ⟨((encL r.toNat).map UInt8.ofNat).toArray⟩ := by
  have := encode_list r h
  rw [ByteArray.toList_eq] at this
  rw [← this]
theorem encL_len (r : Nat) : 1 ≤ (encL r).length ∧ (encL r).length ≤ 4 ∧ (r = 65533 → (encL r).length = 3) := by
  unfold encL
  repeat' split
  all_goals (simp; try omega)
theorem enc_size (r : Int) (h : encB r = true) : (Utf8.encode r).size = (encL r.toNat).length := by
  rw [enc_bytes r h]; simp [ByteArray.size]
theorem encS_size (r : Int) (h : encB r = true) : (encS r).size = (encL r.toNat).length := by
  have he : encS r = Utf8.encode r := by simp [encS, h]
  rw [he, enc_size r h]
end Go.Proofs.YtmejlldabdjpjaaGreat

/- The walks of addString and escape. -/
namespace Go.Proofs.YtmejlldabdjpjaaGreat
open Go.RowKit
set_option maxRecDepth 20000 in
theorem conv_row {W : World} {base : Nat} {v : Value} {l : List UInt8} (h : W.ownsRow base 5 1 v l.length (Lib.byteCells l)) : (convert 111 9 v).run Tryz.prog W = .ok (.string ⟨l.toArray⟩) W := by
  rcases h.2 with ⟨rfl, h0⟩ | ⟨g, cap, cur, rfl, _, hg, hc1, _, hc3, htk⟩
  · have : l = [] := List.eq_nil_of_length_eq_zero h0
    subst this
    exact run_convert_bytes_nil W 111 5 Tryz.underlying111 Tryz.underlying5 0 0 9 Tryz.underlying9
  · have hr := run_convert_bytes_arg (P := Tryz.prog) W 111 5 Tryz.underlying111 Tryz.underlying5 g 0 l.length cap (l.map fun b => (b.toNat : Int)) (by simp) (fun i hi => by
      have := Lib.cells_of_row hg l.length i (.int .u8 (l[i]).toNat) (by rw [Nat.mul_one] at htk; rw [htk]; simp [Lib.byteCells, hi])
      rw [Nat.zero_add]
      have e : (l.map fun b => (b.toNat : Int)).getD i 0 = (l[i]).toNat := by simp [List.getD, hi]
      rw [e]
      by_cases hi0 : i = 0
      · subst hi0; simpa [Addr.add] using this
      · simpa [Addr.add, hi0] using this) 9 Tryz.underlying9
    rw [hr]
    congr 2
    unfold strOfNums
    rw [List.map_map]
    congr 2
    have : ((fun n : Int => UInt8.ofNat n.toNat) ∘ fun b : UInt8 => (b.toNat : Int)) = id := by funext b; simp
    rw [this, List.map_id]
set_option maxRecDepth 100000 in
set_option maxHeartbeats 3200000 in
theorem addString_any (b B B2 : Nat) (s : ByteArray) (ts : List Tok) (V : World) (h : SC b B s ts V) (p : Nat) (v : Value) (l : List UInt8) (hv0 : V.ownsRow B2 5 1 v l.length (Lib.byteCells l)) (hl : l.length ≤ 1000000) (hn : ts.length ≤ 20000) :
    Calls Tryz.prog 145 #[.pointer (some ⟨b, 0, none⟩), .int .i64 p, v] V fun e W' => (10000 < l.length → e = refu 14 p ∧ Kp b B V W') ∧ (¬ 10000 < l.length → e = .returned (.tuple #[]) ∧ SC b B s (ts ++ [⟨4, l, 0, p⟩]) W' ∧ Kp b B V W') := by
  obtain ⟨i0, hi0, hz0, hz1, hz2⟩ := info_parts Tryz.info86
  have hcv := conv_row hv0
  have hcv2 := conv_row hv0.drew
  obtain ⟨av, cv, rfl⟩ := slice_shape hv0
  obtain ⟨v, hv, hown⟩ := h.tok
  obtain ⟨a0, c0, rfl⟩ := slice_shape hown
  have hsrc := h.src
  have hfr := h.free
  obtain ⟨hbB, hBW⟩ := h.lt
  have hlt : b < V.heap.size := by omega
  have hne : some b ≠ (Value.slice a0 ts.length c0).ownBlock := fun e => by have := (hown.lt b e.symm).1; omega
  have hrow : ∀ j, (Value.slice a0 ts.length c0).ownBlock = some j → B ≤ j := fun j e => (hown.lt j e).1
  have hsa := fun o => alloc_cell (W := V) (b := b) hlt hsrc o
  have hva := fun o => alloc_cell (W := V) (b := b) hlt hv o
  have hfa := fun o => alloc_frozen (W := V) (b := b) hlt hfr o
  by_cases hb : 10000 < l.length
  · go_enter Tryz.func145, Tryz.ntmps145
    go_wp2_with (go_at_call 142; refine (refuse_any _ _ _).mono ?_; rintro e w' ⟨he, rfl⟩; unfold refu at he; subst he)
    exact ⟨rfl, fun _ => ⟨rfl, Kp.refl _ _ _⟩, fun hc => absurd hb hc⟩
  · go_enter Tryz.func145, Tryz.ntmps145
    go_wp2_with fail
    go_region_law ((refine step_append_lies _ (by rfl) _ _ _ (by rfl) B 86 i0 _ 4 40 Tryz.underlying77 hi0 hz0 hz1 hz2 rfl (by omega) (.slice a0 ts.length c0) ts.length (cellsT ts) (by rfl) (by first | exact (hown.alloc _).drew | exact hown.alloc _) ⟨V.heap.size, 0, none⟩ 1 1 [.int .i64 4, .string ⟨l.toArray⟩, .int .i64 0, .int .i64 p] (by rfl) (by rfl) (World.news_of_block (cs := #[.int .i64 4, .string ⟨l.toArray⟩, .int .i64 0, .int .i64 p]) (t := 86) (fr := (0, 0)) (heap_alloc_new V _)) (by simp [Value.oneCell']) (by omega) (by unfold maxLen; omega) (by omega) (by simp; omega) (V.heap.size + 1) (by simp) ?_; intro gg cap w2 hown1 hgrow hat hlt2; have hs2 : w2.cell? ⟨b, 0, none⟩ = some (.string s) := (hgrow.cell_far ⟨b, 0, none⟩ (by simp; omega) hne).trans (hsa _); have hv2 : w2.cell? ⟨b, 1, none⟩ = some (.slice a0 ts.length c0) := (hgrow.cell_far ⟨b, 1, none⟩ (by simp; omega) hne).trans (hva _); have hf2 : w2.frozen? ⟨b, 1, none⟩ = false := (hgrow.frozen_far ⟨b, 1, none⟩ (by simp; omega) hne).trans (hfa _)))
    all_goals
      go_wp2
      go_end0
      have K2 : Kp b B V w2 := (((Kp.refl b B V).alloc hBW _).drew).grown hgrow (by simp; omega) hrow
      exact ⟨fun hc => absurd hc hb, fun _ => ⟨rfl, h.added K2 hs2 hv2 hf2 (by simp) hown1⟩⟩
theorem encS_le (r : Int) : (encS r).data.toList.length ≤ 4 := by
  cases h : encB r
  · simp [encS, h]
  · rw [Array.length_toList]
    have := encS_size r h
    have h2 := (encL_len r.toNat).2.1
    have h3 : (encS r).data.size = (encS r).size := rfl
    omega
theorem esc_le : ∀ l : List UInt8, (esc l).2 ≤ 11 ∧ (esc l).1.length ≤ 4
  | [] => by simp [esc]
  | c :: u => by
    simp only [esc]
    split
    · simp
    split
    · simp
    split
    · simp
    split
    · simp
    split
    · unfold escX; split <;> simp
    split
    · unfold escU
      split
      · have := hxs_len 8 (u.drop 1)
        exact ⟨by simp only; omega, encS_le _⟩
      · simp
    · unfold escD
      split
      · simp
      · have := dgs_len 3 (c :: u)
        exact ⟨by simp only; omega, by simp⟩
theorem esc_len4 (l : List UInt8) : (esc l).1.length ≤ 4 := (esc_le l).2
set_option maxHeartbeats 1000000 in
theorem escape_any (b : Nat) (s : ByteArray) (V : World) (hsrc : V.cell? ⟨b, 0, none⟩ = some (.string s)) (o p : Nat) (hp : p < s.size) (hs : s.size ≤ 20000) :
    Calls Tryz.prog 146 #[.pointer (some ⟨b, 0, none⟩), .int .i64 o, .int .i64 p] V fun e W' => Below V.heap.size V W' ∧ (LD s (p + 1) = [] → e = refu 4 o) ∧ (LD s (p + 1) ≠ [] → (esc (LD s (p + 1))).2 = 0 → e = refu 4 p) ∧
      (LD s (p + 1) ≠ [] → (esc (LD s (p + 1))).2 ≠ 0 → e = .returned (.tuple #[.string ⟨(esc (LD s (p + 1))).1.toArray⟩, .int .i64 ((p + 1 + (esc (LD s (p + 1))).2 : Nat) : Int)])) := by
  have hle : (esc (LD s (p + 1))).2 ≤ 11 := (esc_le _).1
  cases hL : LD s (p + 1) with
  | nil =>
    have he : (s.extract (p + 1) s.size).toList.isEmpty = true := by rw [ByteArray.toList_eq, ext_end, hL]; rfl
    clear hL hle
    go_enter Tryz.func146, Tryz.ntmps146
    go_wp2_with (go_at_call 142; refine (refuse_any _ _ _).mono ?_; rintro e w' ⟨he, rfl⟩; unfold refu at he; subst he)
    exact ⟨rfl, Below.refl _ _, fun _ => rfl, fun hc => absurd rfl hc, fun hc => absurd rfl hc⟩
  | cons c u =>
    have he : (s.extract (p + 1) s.size).toList.isEmpty = false := by rw [ByteArray.toList_eq, ext_end, hL]; rfl
    have C1 := fun w => escaped_any (s.extract (p + 1) s.size) c u w (ext_size _ _ _ hs) (by rw [ext_end, hL])
    rw [hL] at hle
    unfold ansE at C1
    obtain ⟨x, hx⟩ : ∃ x, esc (c :: u) = x := ⟨_, rfl⟩
    rw [hx] at C1 hle ⊢
    obtain ⟨y, n⟩ := x
    simp only at C1 hle ⊢
    clear hL hx
    by_cases hz : n = 0
    · subst hz
      go_enter Tryz.func146, Tryz.ntmps146
      go_wp2_with (first
        | (go_at_call 142; refine (refuse_any _ _ _).mono ?_; rintro e w' ⟨he, rfl⟩; unfold refu at he; subst he)
        | (go_at_call 157; refine (C1 _).mono ?_; rintro e w1 ⟨rfl, hb⟩))
      exact ⟨rfl, hb, fun hc => (by cases hc), fun _ _ => rfl, fun _ hc => absurd rfl hc⟩
    · have hz' : ((n : Int) == 0) = false := by simpa using hz
      go_enter Tryz.func146, Tryz.ntmps146
      go_wp2_with (go_at_call 157; refine (C1 _).mono ?_; rintro e w1 ⟨rfl, hb⟩)
      go_ret2
      exact ⟨hb, fun hc => (by cases hc), fun _ hc => absurd hc hz, fun _ _ => ret_si' rfl (by omega)⟩
end Go.Proofs.YtmejlldabdjpjaaGreat

/- Plain facts on strings (no program in it): what an escape takes of the text; bytes that are passed over one by one. -/
namespace Go.Proofs.YtmejlldabdjpjaaGreat
open Go.RowKit
theorem hxs_prefix (m : Nat) (l : List UInt8) : l.take (hxs m l).length = hxs m l := by
  unfold hxs
  rw [takeWhile_take, List.length_take]
  congr 1
  have := (List.takeWhile_sublist (l := l) (fun c : UInt8 => W.dgB c.toNat)).length_le
  omega
theorem dgs_prefix (m : Nat) (l : List UInt8) : l.take (dgs m l).length = dgs m l := by
  unfold dgs
  rw [takeWhile_take, List.length_take]
  congr 1
  have := (List.takeWhile_sublist (l := l) (fun c : UInt8 => decide (48 ≤ (c.toNat : Int) ∧ (c.toNat : Int) ≤ 57))).length_le
  omega
theorem hxs_length (m : Nat) (l : List UInt8) : (hxs m l).length ≤ l.length := by
  have := congrArg List.length (hxs_prefix m l)
  rw [List.length_take] at this
  omega
theorem dgs_length (m : Nat) (l : List UInt8) : (dgs m l).length ≤ l.length := by
  have := congrArg List.length (dgs_prefix m l)
  rw [List.length_take] at this
  omega
theorem hxs_asc (m : Nat) (l : List UInt8) : ∀ x ∈ hxs m l, x.toNat < 128 := fun x hx => by
  have h := List.all_eq_true.1 (hxs_all m l) x hx
  simp only [W.dgB, Bool.or_eq_true, decide_eq_true_eq] at h
  omega
theorem dgs_asc (m : Nat) (l : List UInt8) : ∀ x ∈ dgs m l, x.toNat < 128 := fun x hx => by
  have h := List.all_eq_true.1 (dgs_all m l) x hx
  simp only [decide_eq_true_eq] at h
  omega
/-- What an escape takes of the text: it is there, and its bytes are all below 128. -/
theorem esc_take : ∀ l : List UInt8, (esc l).2 ≤ l.length ∧ ∀ x ∈ l.take (esc l).2, x.toNat < 128
  | [] => by simp [esc]
  | c :: u => by
    have one : ∀ n : Nat, c.toNat = n → n < 128 → (1 ≤ (c :: u).length ∧ ∀ x ∈ (c :: u).take 1, x.toNat < 128) := fun n h1 h2 => by
      refine ⟨by simp, fun x hx => ?_⟩
      simp at hx
      rw [hx, h1]; exact h2
    simp only [esc]
    split
    · rename_i h; exact one 110 h (by omega)
    split
    · rename_i h; exact one 116 h (by omega)
    split
    · rename_i h; exact one 114 h (by omega)
    split
    · rename_i h
      rcases h with h | h | h
      · exact one 92 h (by omega)
      · exact one 34 h (by omega)
      · exact one 39 h (by omega)
    split
    · rename_i h
      unfold escX
      split
      · rename_i h2
        have h3 := hxs_length 2 u
        have h4 := hxs_prefix 2 u
        rw [h2] at h4
        refine ⟨by simp; omega, fun x hx => ?_⟩
        simp only [List.take_succ_cons, List.mem_cons] at hx
        rcases hx with rfl | hx
        · omega
        · rw [h4] at hx; exact hxs_asc 2 u x hx
      · simp
    split
    · rename_i h
      unfold escU
      split
      · rename_i h2
        obtain ⟨a1, _, _, a2⟩ := h2
        cases u with
        | nil => exact absurd a1 (by decide)
        | cons d v =>
          simp only [List.headD_cons] at a1
          simp only [List.drop_succ_cons, List.drop_zero] at *
          rw [Nat.add_comm, List.drop_succ_cons] at a2
          have h4 := hxs_prefix 8 v
          have h3 : (hxs 8 v).length < v.length := by
            rcases Nat.lt_or_ge (hxs 8 v).length v.length with hl | hl
            · exact hl
            · rw [List.drop_of_length_le hl] at a2; exact absurd a2 (by decide)
          refine ⟨by simp; omega, fun x hx => ?_⟩
          simp only [List.take_succ_cons, List.mem_cons] at hx
          rcases hx with rfl | rfl | hx
          · omega
          · rw [a1]; decide
          · rw [List.take_succ_eq_append_getElem h3, h4, List.mem_append, List.mem_singleton] at hx
            rcases hx with hx | rfl
            · exact hxs_asc 8 v x hx
            · rw [List.drop_eq_getElem_cons h3] at a2
              simp only [List.headD_cons] at a2
              rw [a2]; decide
      · simp
    · unfold escD
      split
      · simp
      · refine ⟨dgs_length 3 _, fun x hx => ?_⟩
        simp only at hx
        rw [dgs_prefix] at hx
        exact dgs_asc 3 _ x hx
/-- Bytes that say nothing are passed over. -/
theorem qt_pass (q : UInt8) : ∀ (n : Nat) (l : List UInt8) (i : Nat) (acc : List UInt8), n ≤ l.length → (∀ x ∈ l.take n, x.toNat ≠ 10 ∧ x ≠ q ∧ x.toNat ≠ 92) → qt q l i acc = qt q (l.drop n) (i + n) (acc ++ l.take n)
  | 0, l, i, acc, _, _ => by simp
  | n + 1, [], i, acc, h, _ => by simp at h
  | n + 1, c :: t, i, acc, h, hx => by
    obtain ⟨h1, h2, h3⟩ := hx c (by simp)
    have ih := qt_pass q n t (i + 1) (acc ++ [c]) (by simpa using h) (fun x hm => hx x (by simp [hm]))
    rw [qt, if_neg h1, if_neg h2, if_neg h3, ih]
    simp only [List.drop_succ_cons, List.take_succ_cons, List.append_assoc, List.cons_append, List.nil_append]
    congr 1
    omega
theorem qt_nil (q : UInt8) (i : Nat) (acc : List UInt8) : qt q [] i acc = .bad 4 0 := by rw [qt]
theorem qt_nl (q c : UInt8) (t : List UInt8) (i : Nat) (acc : List UInt8) (h : c.toNat = 10) : qt q (c :: t) i acc = .bad 4 0 := by rw [qt, if_pos h]
theorem qt_end (q c : UInt8) (t : List UInt8) (i : Nat) (acc : List UInt8) (h : c = q) (hq : q.toNat ≠ 10) : qt q (c :: t) i acc = if 10000 < acc.length then .bad 14 0 else .ok acc (i + 1) := by
  rw [qt, if_neg (by rw [h]; exact hq), if_pos h]
theorem qt_esc (q c : UInt8) (t : List UInt8) (i : Nat) (acc : List UInt8) (h : c.toNat = 92) (hq : q.toNat ≠ 92) :
    qt q (c :: t) i acc = if t = [] then .bad 4 0 else if (esc t).2 = 0 then .bad 4 i else qt q (t.drop (esc t).2) (i + 1 + (esc t).2) (acc ++ (esc t).1) := by
  have h2 : ¬ c = q := fun e => hq (by rw [← e]; exact h)
  rw [qt, if_neg (by omega), if_neg h2, if_pos h]
end Go.Proofs.YtmejlldabdjpjaaGreat

/- The walk of the reference's read, and with it of its Parse and Read. -/
namespace Go.Proofs.YtmejlldabdjpjaaGreat.W
open Go.RowKit
theorem ret1 {a b : Int} (h : a = b) : Ending.returned (.int .i64 a) = .returned (.int .i64 b) := by rw [h]
/-! ### decimal -/
/-! ### Parse and Read, by the reference -/
end Go.Proofs.YtmejlldabdjpjaaGreat.W

/- The walk of the reference's Format: digit by digit from the last one, then turned round. -/
namespace Go.Proofs.YtmejlldabdjpjaaGreat.W
open Go.RowKit
def byteV (b : UInt8) : Value := .int .u8 b.toNat
theorem Tryz.info5 : (Tryz.prog.info? 5).map (fun i => (i.zero, i.size, i.bytes)) = some (some (.int .u8 0), 1, 1) := by kernel_rfl
theorem slice_shape {w : World} {base : Nat} {e : TypeId} {size : Nat} {v : Value} {n : Nat} {xs : List Value} (h : w.ownsRow base e size v n xs) : ∃ a c, v = .slice a n c := by
  rcases h.2 with ⟨rfl, rfl⟩ | ⟨g, cap, cur, rfl, _⟩
  · exact ⟨_, _, rfl⟩
  · exact ⟨_, _, rfl⟩
/-- The list with its first and last k places changed. -/
def sw (l : List UInt8) (k p : Nat) : UInt8 := if p < k ∨ l.length - k ≤ p then l.getD (l.length - 1 - p) 0 else l.getD p 0
/-- A row of bytes that may be written, the other memory as it was. -/
structure Bytes (B g : Nat) (w W : World) (l : List UInt8) (k : Nat) : Prop where
  cell : ∀ p, p < l.length → W.cell? ⟨g, p, none⟩ = some (byteV (sw l k p))
  free : ∀ p, p < l.length → W.frozen? ⟨g, p, none⟩ = false
  below : Below B w W
  low : B ≤ g
end Go.Proofs.YtmejlldabdjpjaaGreat.W

/- What is encoded decodes to itself; the walk of the law RunesCodes. -/
import Derived.Test.YtoecfpedpibfiaaRenc
namespace Go.Proofs.Ytoecfpedpibfiaa
open Go.RowKit

theorem enc_bytes (r : Int) (h : encB r = true) : Utf8.encode r = ⟨((encL r.toNat).map UInt8.ofNat).toArray⟩ := by
  have := encode_list r h
  rw [ByteArray.toList_eq] at this
  rw [← this]

theorem decL (l : List Nat) (i : Nat) (hl : ∀ x ∈ l, x < 256) : ((⟨(l.map UInt8.ofNat).toArray⟩ : ByteArray).get! i).toNat = l.getD i 0 := by
  rw [get_data]
  simp only [List.getD, List.getElem?_map]
  cases h : l[i]? with
  | none => simp
  | some x =>
    have := hl x (List.mem_of_getElem? h)
    simp; omega

set_option maxHeartbeats 2000000 in
theorem decN_enc (r : Nat) (h : r ≤ 1114111) (hs : r < 55296 ∨ 57343 < r) : Lib.decodeN (encL r).length ((encL r).getD 0 0) ((encL r).getD 1 0) ((encL r).getD 2 0) ((encL r).getD 3 0) = (r, (encL r).length) := by
  unfold encL
  split
  · simp [Lib.decodeN]; omega
  · split
    · simp only [List.length_cons, List.length_nil, List.getD_cons_zero, List.getD_cons_succ]
      unfold Lib.decodeN
      rw [if_neg (by omega), if_pos (by omega), if_pos (by omega)]
      congr 1
      omega
    · split
      · simp only [List.length_cons, List.length_nil, List.getD_cons_zero, List.getD_cons_succ]
        unfold Lib.decodeN
        rw [if_neg (by omega), if_neg (by omega), if_pos (by omega), if_pos (by omega)]
        congr 1
        omega
      · simp only [List.length_cons, List.length_nil, List.getD_cons_zero, List.getD_cons_succ]
        unfold Lib.decodeN
        rw [if_neg (by omega), if_neg (by omega), if_neg (by omega), if_pos (by omega), if_pos (by omega)]
        congr 1
        omega

theorem encL_len (r : Nat) : 1 ≤ (encL r).length ∧ (encL r).length ≤ 4 ∧ (r = 65533 → (encL r).length = 3) := by
  unfold encL
  repeat' split
  all_goals (simp; try omega)

theorem enc_size (r : Int) (h : encB r = true) : (Utf8.encode r).size = (encL r.toNat).length := by
  rw [enc_bytes r h]; simp [ByteArray.size]

theorem dec_enc (r : Int) (h : encB r = true) : Utf8.decode (Utf8.encode r) 0 = (r.toNat, (encL r.toNat).length) := by
  have hb := (encB_iff r).1 h
  have hl := encL_lt r.toNat (by omega)
  rw [Lib.decode_at, enc_size r h, enc_bytes r h]
  rw [decL _ _ hl, decL _ _ hl, decL _ _ hl, decL _ _ hl]
  exact decN_enc r.toNat (by omega) (by omega)

/-- The runes of an encoding: the one. -/
theorem rest_enc (r : Int) (h : encB r = true) : rest (encS r) 0 = [(0, (encL r.toNat).length, r.toNat)] := by
  have he : encS r = Utf8.encode r := by simp [encS, h]
  have hl := encL_len r.toNat
  have hd := dec_enc r h
  rw [he, rest_at _ _ (by rw [enc_size r h]; omega)]
  unfold wd rn
  rw [hd, rest_end _ _ (by rw [enc_size r h]; simp)]

theorem str_enc (r : Int) (h : encB r = true) (xs : List Int) (hx : xs.map Int.toNat = encL r.toNat) : strOfNums xs = encS r := by
  have he : encS r = Utf8.encode r := by simp [encS, h]
  rw [he, enc_bytes r h, ← hx]
  simp [strOfNums]

theorem renc_any (r : Int) (w : World) : Calls Try.prog 24 #[.int .i64 r] w fun e w' => e = .returned (.tuple #[.string (encS r), .int .i64 (encE r)]) ∧ Below w.heap.size w w' := by
  cases he : encB r
  · have h1 : encS r = ⟨#[]⟩ := by simp [encS, he]
    have h2 : encE r = 3 := by simp [encE, he]
    rw [h1, h2]
    clear h1 h2
    go_enter Try.func24, Try.ntmps24
    go_wp2_with (go_at_call 40; refine (good_any _ _).mono ?_; rintro e w' ⟨rfl, rfl⟩)
    go_ret2
    exact ⟨rfl, Below.refl _ _⟩
  · have h2 : encE r = 0 := by simp [encE, he]
    have hb := (encB_iff r).1 he
    rw [h2]
    by_cases c1 : r < 128
    · rw [← str_enc r he [r] (by unfold encL; rw [if_pos (by omega)]; rfl)]
      exact renc1 r w he hb.1 c1
    · by_cases c2 : r < 2048
      · rw [← str_enc r he [192 + r / 64, 128 + r % 64] (by unfold encL; rw [if_neg (by omega), if_pos (by omega)]; simp; omega)]
        exact renc2 r w he (by omega) c2
      · by_cases c3 : r < 65536
        · rw [← str_enc r he [224 + r / 64 / 64, 128 + r / 64 % 64, 128 + r % 64] (by unfold encL; rw [if_neg (by omega), if_neg (by omega), if_pos (by omega)]; simp; omega)]
          exact renc3 r w he (by omega) c3
        · rw [← str_enc r he [240 + r / 64 / 64 / 64, 128 + r / 64 / 64 % 64, 128 + r / 64 % 64, 128 + r % 64] (by unfold encL; rw [if_neg (by omega), if_neg (by omega), if_neg (by omega)]; simp; omega)]
          exact renc4 r w he (by omega) hb.2.1

theorem encS_size (r : Int) (h : encB r = true) : (encS r).size = (encL r.toNat).length := by
  have he : encS r = Utf8.encode r := by simp [encS, h]
  rw [he, enc_size r h]

theorem dec_c (r : Int) (h : encB r = true) (w : World) : Calls Try.prog 17 #[.string (encS r), .int .i64 0] w fun e w' => e = .returned (.tuple #[.agg #[.int .i64 0, .int .i64 (encS r).size, .int .i64 r], .int .i64 0]) ∧ Below w.heap.size w w' := by
  have he : encS r = Utf8.encode r := by simp [encS, h]
  have hb := (encB_iff r).1 h
  have hl := encL_len r.toNat
  have hz := encS_size r h
  have hd := dec_enc r h
  have hw : wd (encS r) 0 = (encS r).size := by unfold wd; rw [hz, he, hd]
  have hr : ((rn (encS r) 0 : Nat) : Int) = r := by unfold rn; rw [he, hd]; simp; omega
  have := decode_yes (encS r) 0 w (by omega) (by omega)
  rw [hw, hr] at this
  exact this
theorem cnt_c (r : Int) (h : encB r = true) (w : World) : Calls Try.prog 12 #[.string (encS r)] w fun e w' => e = .returned (.int .i64 1) ∧ Below w.heap.size w w' := by
  have hl := encL_len r.toNat
  have := count_any (encS r) w (by rw [encS_size r h]; omega)
  rw [rest_enc r h] at this
  exact this
theorem bad_c (r : Int) (h : encB r = true) (w : World) : Calls Try.prog 13 #[.string (encS r)] w fun e w' => e = .returned (.int .i64 (-1)) ∧ Below w.heap.size w w' := by
  have hl := encL_len r.toNat
  have := bad_any (encS r) w (by rw [encS_size r h]; omega)
  rw [rest_enc r h] at this
  have hb : badOf [(0, (encL r.toNat).length, r.toNat)] = -1 := by
    have : isBad (0, (encL r.toNat).length, r.toNat) = false := by simp [isBad]; omega
    simp [badOf, this]
  rw [hb] at this
  exact this

theorem bel_on {w a b : World} (h : Below w.heap.size w a) (k : Below a.heap.size a b) : Below w.heap.size w b := h.trans (k.mono h.size)
theorem bel_new {w a : World} (h : Below w.heap.size w a) (o : Obj) : Below w.heap.size w (a.alloc o) := h.alloc h.size o

set_option maxHeartbeats 2000000 in
theorem codes_walk (r : Int) (w : World) : Calls Try.prog 5 #[.int .i64 r] w fun e w' => e = .returned (.bool true) ∧ Below w.heap.size w w' := by
  cases h : encB r
  · have e1 : encE r = 3 := by simp [encE, h]
    clear h
    go_enter Try.func5, Try.ntmps5
    go_wp2_with (first
      | (go_at_call 9; refine (fixed_any _).mono ?_; rintro e w1 ⟨rfl, hb1⟩)
      | (go_at_call 23; refine (encode_any _ _).mono ?_; rintro e w' ⟨rfl, rfl⟩)
      | (go_at_call 24; refine (renc_any _ _).mono ?_; rintro e w2 ⟨rfl, hb2⟩)
      | (go_at_call 25; refine (letter_any _ _).mono ?_; rintro e w' ⟨rfl, rfl⟩)
      | (go_at_call 26; refine (rletter_any _ _).mono ?_; rintro e w' ⟨rfl, rfl⟩)
      | (go_at_call 27; refine (digit_any _ _).mono ?_; rintro e w' ⟨rfl, rfl⟩)
      | (go_at_call 28; refine (rdigit_any _ _).mono ?_; rintro e w' ⟨rfl, rfl⟩))
    go_ret
    exact ⟨rfl, bel_on hb1 hb2⟩
  · have e1 : encE r = 0 := by simp [encE, h]
    have D := dec_c r h
    have C := cnt_c r h
    have B := bad_c r h
    clear h
    go_enter Try.func5, Try.ntmps5
    go_wp2_with (first
      | (go_at_call 9; refine (fixed_any _).mono ?_; rintro e w1 ⟨rfl, hb1⟩)
      | (go_at_call 23; refine (encode_any _ _).mono ?_; rintro e w' ⟨rfl, rfl⟩)
      | (go_at_call 24; refine (renc_any _ _).mono ?_; rintro e w2 ⟨rfl, hb2⟩)
      | (go_at_call 25; refine (letter_any _ _).mono ?_; rintro e w' ⟨rfl, rfl⟩)
      | (go_at_call 26; refine (rletter_any _ _).mono ?_; rintro e w' ⟨rfl, rfl⟩)
      | (go_at_call 27; refine (digit_any _ _).mono ?_; rintro e w' ⟨rfl, rfl⟩)
      | (go_at_call 28; refine (rdigit_any _ _).mono ?_; rintro e w' ⟨rfl, rfl⟩)
      | (go_at_call 17; refine (D _).mono ?_; rintro e w3 ⟨rfl, hb3⟩)
      | (go_at_call 12; refine (C _).mono ?_; rintro e w4 ⟨rfl, hb4⟩)
      | (go_at_call 13; refine (B _).mono ?_; rintro e w5 ⟨rfl, hb5⟩))
    go_ret
    exact ⟨rfl, bel_on (bel_on (bel_new (bel_on (bel_on hb1 hb2) hb3) _) hb4) hb5⟩

#print axioms codes_walk

end Go.Proofs.Ytoecfpedpibfiaa

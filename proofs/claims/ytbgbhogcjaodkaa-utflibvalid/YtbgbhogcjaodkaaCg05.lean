/- The walk of the reference's Encode. -/
import Derived.Test.YtbgbhogcjaodkaaCg02
import Derived.Test.YtbgbhogcjaodkaaCg04
import Derived.Laws.BytesArg
namespace Go.Proofs.Ytbgbhogcjaodkaa
open Go.RowKit

def byN (r : Int) : Int := if r < 128 then 1 else if r < 2048 then 2 else if r < 65536 then 3 else 4
set_option maxHeartbeats 400000 in
theorem bytes_any (r : Int) (w : World) : Calls Try.prog 43 #[.int .i64 r] w fun e w' => e = .returned (.int .i64 (byN r)) ∧ w' = w := by
  go_enter Try.func43, Try.ntmps43
  go_wp2
  all_goals (go_ret; exact ⟨ret1 (by unfold byN; (repeat' split) <;> omega), rfl⟩)

theorem conv_new (xs : List Int) (n : Nat) (hn : xs.length = n) (W : World) : (convert 57 9 (.slice (some ⟨W.heap.size, 0, none⟩) n n)).run Try.prog (W.alloc (.cells (xs.map (Value.int .u8)).toArray 5)) = .ok (.string (strOfNums xs)) (W.alloc (.cells (xs.map (Value.int .u8)).toArray 5)) := by
  refine run_convert_bytes_arg _ 57 5 Try.underlying57 Try.underlying5 W.heap.size 0 n n xs hn (fun i hi => ?_) 9 Try.underlying9
  rw [Nat.zero_add]
  exact (new_cell W (xs.map (Value.int .u8)) 5 i _ (by simp [List.getElem?_eq_getElem (show i < xs.length by omega), List.getD])).1

set_option maxHeartbeats 1000000 in
theorem renc1 (r : Int) (w : World) (he : encB r = true) (h0 : 0 ≤ r) (h : r < 128) : Calls Try.prog 32 #[.int .i64 r] w fun e w' => e = .returned (.tuple #[.string (strOfNums [r]), .int .i64 0]) ∧ Below w.heap.size w w' := by
  have hn : byN r = 1 := by unfold byN; simp [h]
  have hcv := fun W => conv_new [r] 1 rfl W
  simp only [List.map_cons, List.map_nil] at hcv
  go_enter Try.func32, Try.ntmps32
  go_wp2_with (first | (go_at_call 42; refine (good_any _ _).mono ?_; rintro e w' ⟨rfl, rfl⟩) | (go_at_call 43; refine (bytes_any _ _).mono ?_; rintro e w' ⟨rfl, rfl⟩))
  go_ret2
  exact ⟨rfl, (Below.refl _ _).alloc (Nat.le_refl _) _⟩

set_option maxHeartbeats 1000000 in
theorem renc2 (r : Int) (w : World) (he : encB r = true) (h0 : 128 ≤ r) (h : r < 2048) : Calls Try.prog 32 #[.int .i64 r] w fun e w' => e = .returned (.tuple #[.string (strOfNums [192 + r / 64, 128 + r % 64]), .int .i64 0]) ∧ Below w.heap.size w w' := by
  have hn : byN r = 2 := by unfold byN; rw [if_neg (by omega), if_pos h]
  have hmk : ∀ w, (Instr.makeSlice 57 (.int .i64 2) (.int .i64 2)).run Try.prog w = .ok (.slice (some ⟨w.heap.size, 0, none⟩) 2 2) (w.alloc (.cells #[.int .u8 0, .int .u8 0] 5)) := fun _ => by kernel_rfl
  have hcv := fun a b W => conv_new [a, b] 2 rfl W
  simp only [List.map_cons, List.map_nil] at hcv
  go_enter Try.func32, Try.ntmps32
  go_wp2_with (first | (go_at_call 42; refine (good_any _ _).mono ?_; rintro e w' ⟨rfl, rfl⟩) | (go_at_call 43; refine (bytes_any _ _).mono ?_; rintro e w' ⟨rfl, rfl⟩))
  refine wp_loop_rounds 2 ?_
  rw [rounds_succ]
  go_wp2
  rw [rounds_succ]
  go_wp2
  go_ret2
  exact ⟨rfl, (Below.refl _ _).alloc (Nat.le_refl _) _⟩

set_option maxHeartbeats 1000000 in
theorem renc3 (r : Int) (w : World) (he : encB r = true) (h0 : 2048 ≤ r) (h : r < 65536) : Calls Try.prog 32 #[.int .i64 r] w fun e w' => e = .returned (.tuple #[.string (strOfNums [224 + r / 64 / 64, 128 + r / 64 % 64, 128 + r % 64]), .int .i64 0]) ∧ Below w.heap.size w w' := by
  have hn : byN r = 3 := by unfold byN; rw [if_neg (by omega), if_neg (by omega), if_pos h]
  have hmk : ∀ w, (Instr.makeSlice 57 (.int .i64 3) (.int .i64 3)).run Try.prog w = .ok (.slice (some ⟨w.heap.size, 0, none⟩) 3 3) (w.alloc (.cells #[.int .u8 0, .int .u8 0, .int .u8 0] 5)) := fun _ => by kernel_rfl
  have hcv := fun a b c W => conv_new [a, b, c] 3 rfl W
  simp only [List.map_cons, List.map_nil] at hcv
  go_enter Try.func32, Try.ntmps32
  go_wp2_with (first | (go_at_call 42; refine (good_any _ _).mono ?_; rintro e w' ⟨rfl, rfl⟩) | (go_at_call 43; refine (bytes_any _ _).mono ?_; rintro e w' ⟨rfl, rfl⟩))
  refine wp_loop_rounds 3 ?_
  rw [rounds_succ]
  go_wp2
  rw [rounds_succ]
  go_wp2
  rw [rounds_succ]
  go_wp2
  go_ret2
  exact ⟨rfl, (Below.refl _ _).alloc (Nat.le_refl _) _⟩

set_option maxHeartbeats 1000000 in
theorem renc4 (r : Int) (w : World) (he : encB r = true) (h0 : 65536 ≤ r) (h : r ≤ 1114111) : Calls Try.prog 32 #[.int .i64 r] w fun e w' => e = .returned (.tuple #[.string (strOfNums [240 + r / 64 / 64 / 64, 128 + r / 64 / 64 % 64, 128 + r / 64 % 64, 128 + r % 64]), .int .i64 0]) ∧ Below w.heap.size w w' := by
  have hn : byN r = 4 := by unfold byN; rw [if_neg (by omega), if_neg (by omega), if_neg (by omega)]
  have hmk : ∀ w, (Instr.makeSlice 57 (.int .i64 4) (.int .i64 4)).run Try.prog w = .ok (.slice (some ⟨w.heap.size, 0, none⟩) 4 4) (w.alloc (.cells #[.int .u8 0, .int .u8 0, .int .u8 0, .int .u8 0] 5)) := fun _ => by kernel_rfl
  have hcv := fun a b c d W => conv_new [a, b, c, d] 4 rfl W
  simp only [List.map_cons, List.map_nil] at hcv
  go_enter Try.func32, Try.ntmps32
  go_wp2_with (first | (go_at_call 42; refine (good_any _ _).mono ?_; rintro e w' ⟨rfl, rfl⟩) | (go_at_call 43; refine (bytes_any _ _).mono ?_; rintro e w' ⟨rfl, rfl⟩))
  refine wp_loop_rounds 4 ?_
  rw [rounds_succ]
  go_wp2
  rw [rounds_succ]
  go_wp2
  rw [rounds_succ]
  go_wp2
  rw [rounds_succ]
  go_wp2
  go_ret2
  exact ⟨rfl, (Below.refl _ _).alloc (Nat.le_refl _) _⟩

end Go.Proofs.Ytbgbhogcjaodkaa

/- What is encoded decodes to itself; the walk of the law RunesCodes. -/
namespace Go.Proofs.Ytbgbhogcjaodkaa
open Go.RowKit

theorem enc_bytes (r : Int) (h : encB r = true) : Utf8.encode r = ⟨((encL r.toNat).map UInt8.ofNat).toArray⟩ := by
  have := encode_list r h
  rw [ByteArray.toList_eq] at this
  rw [← this]

theorem decL (l : List Nat) (i : Nat) (hl : ∀ x ∈ l, x < 256) : ((⟨(l.map UInt8.ofNat).toArray⟩ : ByteArray).get! i).toNat = l.getD i 0 := by
  rw [get_data]
  simp only [List.getD, List.getElem?_map]
  cases h : l[i]? with
  | none => simp
  | some x =>
    have := hl x (List.mem_of_getElem? h)
    simp; omega

set_option maxHeartbeats 2000000 in
theorem decN_enc (r : Nat) (h : r ≤ 1114111) (hs : r < 55296 ∨ 57343 < r) : Lib.decodeN (encL r).length ((encL r).getD 0 0) ((encL r).getD 1 0) ((encL r).getD 2 0) ((encL r).getD 3 0) = (r, (encL r).length) := by
  unfold encL
  split
  · simp [Lib.decodeN]; omega
  · split
    · simp only [List.length_cons, List.length_nil, List.getD_cons_zero, List.getD_cons_succ]
      unfold Lib.decodeN
      rw [if_neg (by omega), if_pos (by omega), if_pos (by omega)]
      congr 1
      omega
    · split
      · simp only [List.length_cons, List.length_nil, List.getD_cons_zero, List.getD_cons_succ]
        unfold Lib.decodeN
        rw [if_neg (by omega), if_neg (by omega), if_pos (by omega), if_pos (by omega)]
        congr 1
        omega
      · simp only [List.length_cons, List.length_nil, List.getD_cons_zero, List.getD_cons_succ]
        unfold Lib.decodeN
        rw [if_neg (by omega), if_neg (by omega), if_neg (by omega), if_pos (by omega), if_pos (by omega)]
        congr 1
        omega

theorem encL_len (r : Nat) : 1 ≤ (encL r).length ∧ (encL r).length ≤ 4 ∧ (r = 65533 → (encL r).length = 3) := by
  unfold encL
  repeat' split
  all_goals (simp; try omega)

theorem enc_size (r : Int) (h : encB r = true) : (Utf8.encode r).size = (encL r.toNat).length := by
  rw [enc_bytes r h]; simp [ByteArray.size]

theorem dec_enc (r : Int) (h : encB r = true) : Utf8.decode (Utf8.encode r) 0 = (r.toNat, (encL r.toNat).length) := by
  have hb := (encB_iff r).1 h
  have hl := encL_lt r.toNat (by omega)
  rw [Lib.decode_at, enc_size r h, enc_bytes r h]
  rw [decL _ _ hl, decL _ _ hl, decL _ _ hl, decL _ _ hl]
  exact decN_enc r.toNat (by omega) (by omega)

/-- The runes of an encoding: the one. -/
theorem rest_enc (r : Int) (h : encB r = true) : rest (encS r) 0 = [(0, (encL r.toNat).length, r.toNat)] := by
  have he : encS r = Utf8.encode r := by simp [encS, h]
  have hl := encL_len r.toNat
  have hd := dec_enc r h
  rw [he, rest_at _ _ (by rw [enc_size r h]; omega)]
  unfold wd rn
  rw [hd, rest_end _ _ (by rw [enc_size r h]; simp)]

theorem str_enc (r : Int) (h : encB r = true) (xs : List Int) (hx : xs.map Int.toNat = encL r.toNat) : strOfNums xs = encS r := by
  have he : encS r = Utf8.encode r := by simp [encS, h]
  rw [he, enc_bytes r h, ← hx]
  simp [strOfNums]

theorem renc_any (r : Int) (w : World) : Calls Try.prog 32 #[.int .i64 r] w fun e w' => e = .returned (.tuple #[.string (encS r), .int .i64 (encE r)]) ∧ Below w.heap.size w w' := by
  cases he : encB r
  · have h1 : encS r = ⟨#[]⟩ := by simp [encS, he]
    have h2 : encE r = 3 := by simp [encE, he]
    rw [h1, h2]
    clear h1 h2
    go_enter Try.func32, Try.ntmps32
    go_wp2_with (go_at_call 42; refine (good_any _ _).mono ?_; rintro e w' ⟨rfl, rfl⟩)
    go_ret2
    exact ⟨rfl, Below.refl _ _⟩
  · have h2 : encE r = 0 := by simp [encE, he]
    have hb := (encB_iff r).1 he
    rw [h2]
    by_cases c1 : r < 128
    · rw [← str_enc r he [r] (by unfold encL; rw [if_pos (by omega)]; rfl)]
      exact renc1 r w he hb.1 c1
    · by_cases c2 : r < 2048
      · rw [← str_enc r he [192 + r / 64, 128 + r % 64] (by unfold encL; rw [if_neg (by omega), if_pos (by omega)]; simp; omega)]
        exact renc2 r w he (by omega) c2
      · by_cases c3 : r < 65536
        · rw [← str_enc r he [224 + r / 64 / 64, 128 + r / 64 % 64, 128 + r % 64] (by unfold encL; rw [if_neg (by omega), if_neg (by omega), if_pos (by omega)]; simp; omega)]
          exact renc3 r w he (by omega) c3
        · rw [← str_enc r he [240 + r / 64 / 64 / 64, 128 + r / 64 / 64 % 64, 128 + r / 64 % 64, 128 + r % 64] (by unfold encL; rw [if_neg (by omega), if_neg (by omega), if_neg (by omega)]; simp; omega)]
          exact renc4 r w he (by omega) hb.2.1

theorem encS_size (r : Int) (h : encB r = true) : (encS r).size = (encL r.toNat).length := by
  have he : encS r = Utf8.encode r := by simp [encS, h]
  rw [he, enc_size r h]

theorem dec_c (r : Int) (h : encB r = true) (w : World) : Calls Try.prog 37 #[.string (encS r), .int .i64 0] w fun e w' => e = .returned (.tuple #[.agg #[.int .i64 0, .int .i64 (encS r).size, .int .i64 r], .int .i64 0]) ∧ Below w.heap.size w w' := by
  have he : encS r = Utf8.encode r := by simp [encS, h]
  have hb := (encB_iff r).1 h
  have hl := encL_len r.toNat
  have hz := encS_size r h
  have hd := dec_enc r h
  have hw : wd (encS r) 0 = (encS r).size := by unfold wd; rw [hz, he, hd]
  have hr : ((rn (encS r) 0 : Nat) : Int) = r := by unfold rn; rw [he, hd]; simp; omega
  have := decode_yes (encS r) 0 w (by omega) (by omega)
  rw [hw, hr] at this
  exact this
theorem cnt_c (r : Int) (h : encB r = true) (w : World) : Calls Try.prog 23 #[.string (encS r)] w fun e w' => e = .returned (.int .i64 1) ∧ Below w.heap.size w w' := by
  have hl := encL_len r.toNat
  have := count_any (encS r) w (by rw [encS_size r h]; omega)
  rw [rest_enc r h] at this
  exact this
theorem bel_on {w a b : World} (h : Below w.heap.size w a) (k : Below a.heap.size a b) : Below w.heap.size w b := h.trans (k.mono h.size)
theorem bel_new {w a : World} (h : Below w.heap.size w a) (o : Obj) : Below w.heap.size w (a.alloc o) := h.alloc h.size o

end Go.Proofs.Ytbgbhogcjaodkaa

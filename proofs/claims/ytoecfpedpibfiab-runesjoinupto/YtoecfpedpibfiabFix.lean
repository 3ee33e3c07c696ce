/- The walks of Encode and of 'fixed', the answers that the document fixes. -/
import Derived.Test.YtoecfpedpibfiabList
namespace Go.Proofs.Ytoecfpedpibfiab
open Go.RowKit

/-- May it be encoded? -/
def encB (r : Int) : Bool := decide (0 ≤ r ∧ r ≤ 1114111 ∧ (r < 55296 ∨ 57343 < r))

set_option maxHeartbeats 400000 in
theorem encodes_any (r : Int) (w : World) : Calls Try.prog 16 #[.int .i64 r] w fun e w' => e = .returned (.bool (encB r)) ∧ w' = w := by
  go_enter Try.func16, Try.ntmps16
  go_wp2
  all_goals (go_ret; exact ⟨ret_bool (by first | (simp [encB]; done) | (simp [encB]; omega) | (rw [Bool.eq_iff_iff]; simp [encB]; omega)), rfl⟩)
set_option maxHeartbeats 400000 in
theorem good_any (r : Int) (w : World) : Calls Try.prog 21 #[.int .i64 r] w fun e w' => e = .returned (.bool (encB r)) ∧ w' = w := by
  go_enter Try.func21, Try.ntmps21
  go_wp2
  all_goals (go_ret; exact ⟨ret_bool (by first | (simp [encB]; done) | (simp [encB]; omega) | (rw [Bool.eq_iff_iff]; simp [encB]; omega)), rfl⟩)

def encS (r : Int) : ByteArray := if encB r = true then Utf8.encode r else ⟨#[]⟩
def encE (r : Int) : Int := if encB r = true then 0 else 3
theorem ret_si {a b : ByteArray} {c d : Int} (h : a = b) (h' : c = d) : Ending.returned (.tuple #[.string a, .int .i64 c]) = .returned (.tuple #[.string b, .int .i64 d]) := by rw [h, h']

set_option maxHeartbeats 400000 in
theorem encode_any (r : Int) (w : World) : Calls Try.prog 9 #[.int .i64 r] w fun e w' => e = .returned (.tuple #[.string (encS r), .int .i64 (encE r)]) ∧ w' = w := by
  cases h : encB r
  · have h1 : encS r = ⟨#[]⟩ := by simp [encS, h]
    have h2 : encE r = 3 := by simp [encE, h]
    rw [h1, h2]
    clear h1 h2
    go_enter Try.func9, Try.ntmps9
    go_wp2_with (go_at_call 16; refine (encodes_any _ _).mono ?_; rintro e w' ⟨rfl, rfl⟩)
    go_ret2
    exact ⟨rfl, rfl⟩
  · have h1 : encS r = Utf8.encode r := by simp [encS, h]
    have h2 : encE r = 0 := by simp [encE, h]
    rw [h1, h2]
    clear h1 h2
    have hb : 0 ≤ r ∧ r ≤ 1114111 := by simp [encB] at h; omega
    obtain ⟨hb0, hb1⟩ := hb
    go_enter Try.func9, Try.ntmps9
    go_wp2_with (go_at_call 16; refine (encodes_any _ _).mono ?_; rintro e w' ⟨rfl, rfl⟩)
    go_ret2
    exact ⟨rfl, rfl⟩

/-- A row of the call's own that is not empty, cell by cell. -/
theorem row_cells {w : World} {base : Nat} {e : TypeId} {size : Nat} {v : Value} {n : Nat} {xs : List Value} (h : w.ownsRow base e size v n xs) (hn : n ≠ 0) :
    ∃ g cap, v = .slice (some ⟨g, 0, none⟩) n cap ∧ base ≤ g ∧ g < w.heap.size ∧ n ≤ cap ∧ ∀ j u, xs[j]? = some u → w.cell? ⟨g, j, none⟩ = some u := by
  have hlt := h.lt
  have hcs := fun g => h.cells (g := g)
  rcases h.2 with ⟨_, rfl⟩ | ⟨g, cap, cur, rfl, h2, _, h4, _⟩
  · exact absurd rfl hn
  · refine ⟨g, cap, rfl, h2, (hlt g rfl).2, h4, fun j u hj => ?_⟩
    have := hcs g rfl j u hj
    by_cases hj0 : j = 0
    · subst hj0; simpa [Addr.add] using this
    · simpa [Addr.add, hj0] using this

theorem rest_fix : rest { data := #[97, 195, 169, 255] } 0 = [(0, 1, 97), (1, 2, 233), (3, 1, 65533)] := by
  rw [rest_at _ _ (by decide), show wd { data := #[97, 195, 169, 255] } 0 = 1 from rfl, show rn { data := #[97, 195, 169, 255] } 0 = 97 from rfl]
  rw [rest_at _ _ (by decide), show wd { data := #[97, 195, 169, 255] } (0 + 1) = 2 from rfl, show rn { data := #[97, 195, 169, 255] } (0 + 1) = 233 from rfl]
  rw [rest_at _ _ (by decide), show wd { data := #[97, 195, 169, 255] } (0 + 1 + 2) = 1 from rfl, show rn { data := #[97, 195, 169, 255] } (0 + 1 + 2) = 65533 from rfl]
  rw [rest_end _ _ (by decide)]
theorem bad_fix : badOf (rest { data := #[195, 169, 255] } 0) = 2 := by
  rw [rest_at _ _ (by decide), show wd { data := #[195, 169, 255] } 0 = 2 from rfl, show rn { data := #[195, 169, 255] } 0 = 233 from rfl]
  rw [rest_at _ _ (by decide), show wd { data := #[195, 169, 255] } (0 + 2) = 1 from rfl, show rn { data := #[195, 169, 255] } (0 + 2) = 65533 from rfl]
  rw [rest_end _ _ (by decide)]
  rfl
theorem enc_fix : encS 8364 = { data := #[226, 130, 172] } ∧ encE 8364 = 0 := ⟨rfl, rfl⟩

set_option maxHeartbeats 1000000 in
theorem fixed_any (w : World) : Calls Try.prog 4 #[] w fun e w' => e = .returned (.bool true) ∧ Below w.heap.size w w' := by
  have h1 := enc_fix.1
  have h2 := enc_fix.2
  have h3 := bad_fix
  have HL := list_any { data := #[97, 195, 169, 255] } w (by decide)
  rw [rest_fix] at HL
  go_enter Try.func4, Try.ntmps4
  go_wp2_with (first
    | (go_at_call 6; refine HL.mono ?_; rintro e W ⟨v, rfl, hown, hb⟩; obtain ⟨g, cap, rfl, hg, hgW, hcap, hcell⟩ := row_cells hown (by decide); have c3 := hcell 3 _ rfl; have c4 := hcell 4 _ rfl; have c5 := hcell 5 _ rfl; have c6 := hcell 6 _ rfl; have c7 := hcell 7 _ rfl; have c8 := hcell 8 _ rfl; clear hcell hown HL)
    | (go_at_call 9; refine (encode_any _ _).mono ?_; rintro e w' ⟨rfl, rfl⟩)
    | (go_at_call 10; refine (bad_any _ _ (by decide)).mono ?_; rintro e w' ⟨rfl, hb2⟩))
  go_ret
  exact ⟨rfl, hb.trans (hb2.mono hb.size)⟩

#print axioms fixed_any
end Go.Proofs.Ytoecfpedpibfiab

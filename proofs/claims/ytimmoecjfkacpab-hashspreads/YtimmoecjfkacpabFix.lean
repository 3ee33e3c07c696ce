/- The walks of 'fixed', the answers that the document fixes, and of the laws HashTexts and HashPlaces. -/
import Derived.Test.YtimmoecjfkacpabRmain
namespace Go.Proofs.Ytimmoecjfkacpab
open Go.RowKit

theorem fix1 : mnP 2 7 ⟨#[]⟩ 4 = 1 ∧ mnE 2 7 ⟨#[]⟩ 4 = 0 := by decide +kernel
theorem fix2 : mnP 3 0 ⟨#[97]⟩ 8 = 4 ∧ mnE 3 0 ⟨#[97]⟩ 8 = 0 := by decide +kernel
theorem fix3 : mnP 0 0 ⟨#[]⟩ 4 = 0 ∧ mnE 0 0 ⟨#[]⟩ 4 = 9 := by decide +kernel
theorem fix4 : fnv [97] = 3826002220 := by decide +kernel

set_option maxHeartbeats 600000 in
theorem mkI (n : Int) (w : World) : Calls Try.prog 16 #[.int .i64 n] w fun e w' => e = .returned (vl 2 n ⟨#[]⟩) ∧ w' = w.alloc (vb 2 n ⟨#[]⟩) := by
  go_enter Try.func16, Try.ntmps16
  go_wp2
  exact bodyPost_ret (v := vl 2 n ⟨#[]⟩) (by simp [results, Try.results16, go_sem]) rfl ⟨rfl, rfl⟩

set_option maxHeartbeats 600000 in
theorem mkS (s : ByteArray) (w : World) : Calls Try.prog 17 #[.string s] w fun e w' => e = .returned (vl 3 0 s) ∧ w' = w.alloc (vb 3 0 s) := by
  go_enter Try.func17, Try.ntmps17
  go_wp2
  exact bodyPost_ret (v := vl 3 0 s) (by simp [results, Try.results17, go_sem]) rfl ⟨rfl, rfl⟩

set_option maxHeartbeats 600000 in
theorem fixed_any (w : World) : Calls Try.prog 9 #[] w fun e w' => e = .returned (.bool true) ∧ Below w.heap.size w w' := by
  have C5 := mkI 7
  have C6 := mkS ⟨#[97]⟩
  have f11 := fix1.1
  have f12 := fix1.2
  have f21 := fix2.1
  have f22 := fix2.2
  have f31 := fix3.1
  have f32 := fix3.2
  have f4 := fix4
  unfold vl vb at *
  go_enter Try.func9, Try.ntmps9
  go_wp2_with (first | (go_at_call 11; refine (main_any _ _ _ _ _ (by omega) (by omega)).mono ?_; rintro e w' ⟨rfl, rfl⟩) | (go_at_call 8; refine (of_any _ _ (by decide)).mono ?_; rintro e w' ⟨rfl, rfl⟩) | (go_at_call 16; refine (C5 _).mono ?_; rintro e w' ⟨rfl, rfl⟩) | (go_at_call 17; refine (C6 _).mono ?_; rintro e w' ⟨rfl, rfl⟩))
  go_ret
  refine ⟨rfl, ?_⟩
  repeat (first | exact Below.refl _ _ | refine Below.alloc ?_ (by simp; try omega) _)

theorem app_list (s t : ByteArray) : (s ++ t).data.toList = s.data.toList ++ t.data.toList := by simp
theorem law_step (h : Nat) (hh : h < 4294967296) : (wrap64 (bits .xor .i64 (h : Int) 97 * 16777619)).tmod 4294967296 = ((fnv1 h 97 : Nat) : Int) := by
  have := step_i64 h 97 hh
  rwa [show (((97 : UInt8).toNat : Nat) : Int) = 97 from rfl, show wrap64 97 = 97 by (unfold wrap64; omega)] at this
theorem fnv_a (s : ByteArray) : fnv (s ++ ⟨#[97]⟩).data.toList = fnv1 (fnv s.data.toList) 97 := by
  rw [app_list, show (⟨#[97]⟩ : ByteArray).data.toList = [97] from rfl, fnv_snoc]
theorem size_a (s : ByteArray) : (s ++ ⟨#[97]⟩).size = s.size + 1 := by rw [ByteArray.size_append]; rfl

set_option maxRecDepth 20000 in
set_option maxHeartbeats 600000 in
theorem texts_walk (s : ByteArray) (w : World) (hs : s.size ≤ 140737488351232) : Calls Try.prog 3 #[.string s] w fun e w' => e = .returned (.bool true) ∧ Below w.heap.size w w' := by
  have hl := fnv_lt s.data.toList
  have C1 := fun w => of_any s w (by omega)
  have C2 := fun w => rof_any s w (by omega)
  have C3 := fun w => of_any (s ++ ⟨#[97]⟩) w (by rw [size_a]; omega)
  rw [fnv_a] at C3
  obtain ⟨f, hf⟩ : ∃ f, (fnv s.data.toList) = f := ⟨_, rfl⟩
  rw [hf] at C1 C2 C3 hl
  clear hf
  have HS : Hid _ := law_step f hl
  obtain ⟨g, hg⟩ : ∃ g, fnv1 f 97 = g := ⟨_, rfl⟩
  rw [hg] at C3 HS
  clear hg
  have hl' : (f : Int) < 4294967296 := by omega
  go_enter Try.func3, Try.ntmps3
  go_wp2_with fail
  refine (C1 _).mono ?_; rintro e w' ⟨rfl, rfl⟩
  go_wp2_with fail
  refine (fixed_any _).mono ?_; rintro e w' ⟨rfl, hb⟩
  go_wp2_with fail
  refine (C2 _).mono ?_; rintro e w' ⟨rfl, rfl⟩
  go_wp2_with fail
  refine (C3 _).mono ?_; rintro e w' ⟨rfl, rfl⟩
  go_wp2_with fail
  go_ret
  exact ⟨ret_bool (by rw [HS.out]; simp), by assumption⟩

theorem mp_range (k n : Int) (s : ByteArray) (z : Int) (h : 1 ≤ z) (h' : z ≤ 65536) : 0 ≤ mp k n s z ∧ mp k n s z < z := by
  obtain ⟨a, b, c⟩ := dm_pos z h h'
  have q : ∀ x : Int, 0 ≤ x % dm z ∧ x % dm z < z := fun x => ⟨Int.emod_nonneg _ (by omega), by have := Int.emod_lt_of_pos x (show 0 < dm z by omega); omega⟩
  have r : ∀ x : Int, 0 ≤ x % z ∧ x % z < z := fun x => ⟨Int.emod_nonneg _ (by omega), Int.emod_lt_of_pos x (by omega)⟩
  unfold mp
  repeat' split
  · exact r _
  · exact q _
  · exact r _
  · exact q _
theorem mn_range (k n : Int) (s : ByteArray) (z : Int) (h : mnE k n s z = 0) : 0 ≤ mnP k n s z ∧ mnP k n s z < z := by
  unfold mnE at h
  repeat' split at h
  all_goals first | omega | skip
  rename_i h1 h2 h3
  rw [mnP, if_pos ⟨h1, h2, h3⟩]
  obtain ⟨a, b⟩ := pw_bounds z h2
  exact mp_range k n s z a b

theorem bthen {B : Nat} {a w w' : World} (h : Below B a w) (hB : B ≤ w.heap.size) (k : Below w.heap.size w w') : Below B a w' := h.trans (k.mono hB)
theorem b3 (w : World) (o p q : Obj) : Below w.heap.size w (((w.alloc o).alloc p).alloc q) := (b2 w o p).alloc (by simp; omega) q

set_option maxHeartbeats 600000 in
theorem places_walk (k n : Int) (s : ByteArray) (z : Int) (w : World) (hn0 : -9223372036854775808 ≤ n) (hn1 : n ≤ 9223372036854775807) :
    Calls Try.prog 4 #[vl k n s, .int .i64 z] w fun e w' => e = .returned (.bool true) ∧ Below w.heap.size w w' := by
  have C1 := fun w => main_any k n s z w hn0 hn1
  have C2 := fun w => rmain_any k n s z w hn0 hn1
  have hr := mn_range k n s z
  generalize mnP k n s z = p at *
  generalize mnE k n s z = e at *
  unfold vl vb at *
  by_cases he : e = 0
  · subst he
    obtain ⟨h1, h2⟩ := hr rfl
    clear hr
    go_enter Try.func4, Try.ntmps4
    go_wp2_with (first | (go_at_call 9; refine (fixed_any _).mono ?_; rintro e w' ⟨rfl, hb⟩) | (go_at_call 11; refine (C1 _).mono ?_; rintro e w' ⟨rfl, rfl⟩) | (go_at_call 12; refine (C2 _).mono ?_; rintro e w' ⟨rfl, hb2⟩))
    go_ret
    exact ⟨rfl, bthen (bthen (b3 _ _ _ _) (by simp; omega) hb2) (by have := hb2.size; simp at this ⊢; omega) hb⟩
  · clear hr
    have he' : (e == 0) = false := by simpa using he
    go_enter Try.func4, Try.ntmps4
    go_wp2_with (first | (go_at_call 9; refine (fixed_any _).mono ?_; rintro e w' ⟨rfl, hb⟩) | (go_at_call 11; refine (C1 _).mono ?_; rintro e w' ⟨rfl, rfl⟩) | (go_at_call 12; refine (C2 _).mono ?_; rintro e w' ⟨rfl, hb2⟩))
    go_ret
    exact ⟨rfl, bthen (bthen (b3 _ _ _ _) (by simp; omega) hb2) (by have := hb2.size; simp at this ⊢; omega) hb⟩

end Go.Proofs.Ytimmoecjfkacpab

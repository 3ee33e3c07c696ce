/- The walk of the law CensusRow. -/
import Derived.Test.YteknjkofmkigoaaRw
import Derived.Test.YteknjkofmkigoaaRtw
namespace Go.Proofs.Yteknjkofmkigoaa
open Go.RowKit

theorem md_wrap (x d : Int) (h : 1 ≤ d) (h' : d ≤ 65536) : ∃ n : Nat, wrap64 ((IntKind.u64.wrap x).tmod d) = (n : Int) ∧ (n : Int) < d := by
  refine ⟨((x % 18446744073709551616) % d).toNat, ?_⟩
  rw [IntKind.wrap_u64]
  have q0 : 0 ≤ x % 18446744073709551616 := by omega
  have q1 := Int.emod_nonneg (x % 18446744073709551616) (show d ≠ 0 by omega)
  have q2 := Int.emod_lt_of_pos (x % 18446744073709551616) (show 0 < d by omega)
  rw [Int.tmod_eq_emod_of_nonneg q0, wrap64_id _ (by omega) (by omega)]
  omega

theorem size_alloc (w : World) (o : Obj) : (w.alloc o).heap.size = w.heap.size + 1 := by simp
theorem World.ownsRow.go {B n : Nat} {w w' : World} {v : Value} {xs : List Value} (h : w.ownsRow B 3 1 v n xs) (hb : Below w.heap.size w w') : w'.ownsRow B 3 1 v n xs := by
  refine ⟨h.1, ?_⟩
  rcases h.2 with q | ⟨g, cap, cur, h1, h2, h3, h4⟩
  · exact .inl q
  · exact .inr ⟨g, cap, cur, h1, h2, by rw [hb.block g (Array.getElem?_eq_some_iff.1 h3).1]; exact h3, h4⟩

set_option maxRecDepth 20000 in
set_option maxHeartbeats 2000000 in
theorem row_walk (x y : Int) (w : World) :
    Calls Try.prog 8 #[.int .i64 x, .int .i64 y] w fun e w' => e = .returned (.bool true) ∧ Below w.heap.size w w' := by
  obtain ⟨n, hn, hn1⟩ := md_wrap x 3000 (by omega) (by omega)
  obtain ⟨o, ho, ho1⟩ := md_wrap y 1000 (by omega) (by omega)
  obtain ⟨i0, hi0, hz0, hz1, hz2⟩ := info_parts info3
  have HR : Hid _ := row_ask n (by omega) o (by omega) (by omega)
  have hsz := sz_perm (dn_perm n) o
  have HU : Hid (∀ (W : World) (B : Nat) (v : Value), W.ownsRow B 3 1 v n ((upL n).map (Value.int .i64)) → Calls Try.prog 18 #[v, .int .i64 o] W fun e w' => e = .returned (.tuple #[.int .i64 (szA (upL n) o), .int .i64 (szH (upL n) o), .int .i64 (szE (upL n) o)]) ∧ Below W.heap.size W w') := fun W B v q =>
    sizes_any (upL n) o v W (ints_own (B := B) (by rw [upL_len]; exact q)) (upL_fit n (by omega)) (by rw [upL_len]; omega)
  have HV : Hid (∀ (W : World) (B : Nat) (v : Value), W.ownsRow B 3 1 v n ((dnL n n).map (Value.int .i64)) → Calls Try.prog 18 #[v, .int .i64 o] W fun e w' => e = .returned (.tuple #[.int .i64 (szA (upL n) o), .int .i64 (szH (upL n) o), .int .i64 (szE (upL n) o)]) ∧ Below W.heap.size W w') := fun W B v q => by
    rw [← hsz.1, ← hsz.2.1, ← hsz.2.2]
    exact sizes_any (dnL n n) o v W (ints_own (B := B) (by rw [dnL_len]; exact q)) (dnL_fit n (by omega)) (by rw [dnL_len]; omega)
  clear hsz
  generalize szA (upL n) o = A at *
  generalize szH (upL n) o = H at *
  generalize szE (upL n) o = E at *
  go_enter Try.func8, Try.ntmps8
  go_wp2_with fail
  refine (fixed_any w).mono ?_
  rintro e w1 ⟨rfl, b1⟩
  go_wp2_with fail
  rw [hn, ho]
  clear hn ho
  go_loopw [5, 6, 7] (fun u d i wr => ∃ k : Nat, i = .int .i64 ((k : Int) + 1) ∧ k ≤ n ∧ ∃ au cu ad cd, u = .slice au k cu ∧ d = .slice ad k cd ∧ Hid (wr.ownsRow w1.heap.size 3 1 (.slice au k cu) k ((upL k).map (Value.int .i64)) ∧ wr.ownsRow w1.heap.size 3 1 (.slice ad k cd) k ((dnL n k).map (Value.int .i64)) ∧ ((Value.slice au k cu).ownBlock = none ∨ (Value.slice au k cu).ownBlock ≠ (Value.slice ad k cd).ownBlock)) ∧ Below w1.heap.size w1 wr) (fun _ _ i _ => n + 1 - (intOf i).toNat)
  case atStart => exact ⟨0, rfl, by omega, none, 0, none, 0, rfl, rfl, ⟨World.ownsRow_nil _ _ _ _, World.ownsRow_nil _ _ _ _, .inl rfl⟩, Below.refl _ _⟩
  case round =>
    obtain ⟨k, rfl, hk, au, cu, ad, cd, rfl, rfl, HO, hb⟩ := hrel
    by_cases hlt : k < n
    · have hlt' : (k : Int) + 1 ≤ (n : Int) := by omega
      have hk0 : (0 : Int) ≤ (k : Int) := by omega
      have HUD : Hid (wr.ownsRow w1.heap.size 3 1 (.slice au k cu) k ((upL k).map (Value.int .i64))) := HO.out.1
      have HDD : Hid (wr.ownsRow w1.heap.size 3 1 (.slice ad k cd) k ((dnL n k).map (Value.int .i64))) := HO.out.2.1
      have HAP : Hid ((Value.slice au k cu).ownBlock = none ∨ (Value.slice au k cu).ownBlock ≠ (Value.slice ad k cd).ownBlock) := HO.out.2.2
      have hws := hb.size
      clear HO
      have HNE : Hid (∀ _ : Unit, (Value.slice ad k cd).ownBlock = none ∨ (Value.slice ad k cd).ownBlock ≠ (Value.slice au k cu).ownBlock) := fun _ => by
        rcases HAP.out with q | q
        · rw [q]
          cases (Value.slice ad k cd).ownBlock with
          | none => exact .inl rfl
          | some y => exact .inr (by simp)
        · exact .inr (Ne.symm q)
      go_wp2_with (first | (at_builtin; refine wpList_append_lies _ rfl _ _ 22 rfl w1.heap.size 3 i0 _ 1 8 Try.underlying22 hi0 hz0 hz1 hz2 rfl (by omega) (.slice au k cu) k ((upL k).map (Value.int .i64)) rfl (World.ownsRow.alloc HUD.out _) ⟨wr.heap.size, 0, none⟩ 1 1 [.int .i64 ((k : Int) + 1)] rfl rfl (World.news_of_block (cs := #[.int .i64 ((k : Int) + 1)]) (t := 3) (fr := (0, 0)) (heap_alloc_new wr _)) (by simp [Value.oneCell']) (by omega) (by unfold maxLen; omega) (by omega) (by simp; omega) (wr.heap.size + 1) (by simp) ?_; intro g1 c1 w2 hown1 hgrow1 hat1 hlt1) | (at_builtin; refine wpList_append_lies _ rfl _ _ 22 rfl w1.heap.size 3 i0 _ 1 8 Try.underlying22 hi0 hz0 hz1 hz2 rfl (by omega) (.slice ad k cd) k ((dnL n k).map (Value.int .i64)) rfl (World.ownsRow.alloc (World.ownsRow.kept (World.ownsRow.alloc HDD.out _) hgrow1 (HNE.out ())) _) ⟨w2.heap.size, 0, none⟩ 1 1 [.int .i64 _] rfl rfl (World.news_of_block (cs := #[.int .i64 _]) (t := 3) (fr := (0, 0)) (heap_alloc_new w2 _)) (by simp [Value.oneCell']) (by omega) (by unfold maxLen; omega) (by omega) (by have := hgrow1.size; simp at this; simp; omega) (w2.heap.size + 1) (by simp) ?_; intro g2 c2 w3 hown2 hgrow2 hat2 hlt2))
      go_roundw
      case rel =>
        have lt2 := fun q e => World.ownsRow.lt HDD.out q e
        have lt1 := fun q e => World.ownsRow.lt HUD.out q e
        have hs2 := hgrow1.size
        have hs3 := hgrow2.size
        rw [size_alloc] at hs2 hs3
        have ne1 : some g1 ≠ (Value.slice ad k cd).ownBlock := fun e => by
          have h2 := (lt2 g1 e.symm).2
          rcases hat1 with q | q
          · rcases HNE.out () with q2 | q2
            · rw [q2] at e; cases e
            · rw [q] at q2; exact q2 e.symm
          · omega
        have ne2 : g1 ≠ g2 := fun e => by
          rcases hat2 with q | q
          · rw [← e] at q; exact ne1 q.symm
          · omega
        refine ⟨k + 1, by go_num, by omega, _, _, _, _, rfl, rfl, ⟨?_, ?_, .inr (fun e => ne2 (by injection e))⟩, ?_⟩
        · rw [upL_succ, List.map_append]
          exact World.ownsRow.kept (World.ownsRow.alloc hown1 _) hgrow2 (.inr ne1)
        · rw [dnL_succ, List.map_append, show (n : Int) - k = n + 1 - (k + 1) by omega]
          exact hown2
        · refine ((((hb.alloc hws _).grown hgrow1 (by rw [size_alloc]; omega) (fun q e => (lt1 q e).1)).alloc (by omega) _).grown hgrow2 (by rw [size_alloc]; omega) (fun q e => (lt2 q e).1))
      case measure => simp [intOf]; omega
    · obtain rfl : k = n := by omega
      have D1 := HU.out _ _ _ HO.out.1
      clear HU hi0 hz0 hz1 hz2 hk hlt
      have hx : ¬ ((k : Int) + 1 ≤ (k : Int)) := by omega
      go_wp2_with fail
      refine D1.mono ?_
      rintro e w2 ⟨rfl, b2⟩
      have D2 := HV.out w2 w1.heap.size (.slice ad k cd) (World.ownsRow.go HO.out.2.1 b2)
      clear HV D1
      go_wp2_with fail
      refine D2.mono ?_
      rintro e w3 ⟨rfl, b3⟩
      have hR := HR.out
      obtain ⟨rfl, ra0, ra1, rh1, rh2⟩ := hR
      have b4 := bthen b1 b1.size (bthen (bthen hb hb.size b2) (Nat.le_trans hb.size b2.size) b3)
      clear HR D2 b2 b3 hb HO
      have hk9 : (k : Int) < 3000 := hn1
      by_cases ho0 : o = 0
      · subst ho0
        obtain rfl := rh2 rfl
        by_cases hk0 : k = 0
        · subst hk0
          obtain rfl := ra0 rfl
          go_wp2_with fail
          go_ret
          exact ⟨rfl, b4⟩
        · obtain ⟨q1, q2⟩ := ra1 (by omega)
          have q3 : ((k : Int) == 0) = false := by simp; omega
          have q4 : 0 < (k : Int) := by omega
          clear ra0 ra1 rh2
          go_wp2_with fail
          go_ret
          exact ⟨rfl, b4⟩
      · have q5 : 0 < (o : Int) := by omega
        by_cases hk0 : k = 0
        · subst hk0
          obtain rfl := ra0 rfl
          clear ra0 ra1 rh2
          go_wp2_with fail
          go_ret
          exact ⟨rfl, b4⟩
        · obtain ⟨q1, q2⟩ := ra1 (by omega)
          have q3 : ((k : Int) == 0) = false := by simp; omega
          have q4 : 0 < (k : Int) := by omega
          clear ra0 ra1 rh2
          go_wp2_with fail
          go_ret
          exact ⟨rfl, b4⟩

end Go.Proofs.Yteknjkofmkigoaa

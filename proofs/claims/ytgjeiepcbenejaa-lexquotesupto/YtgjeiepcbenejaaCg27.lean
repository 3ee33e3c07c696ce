/- A quoted text, scanned (no program in it); then the walk of the law LexQuotes. -/
import Derived.Test.YtgjeiepcbenejaaCg26
import Derived.Test.YtgjeiepcbenejaaCg09
namespace Go.Proofs.Ytgjeiepcbenejaa
open Go.RowKit

theorem scn_quo (l : List UInt8) (h : l.length ≤ 10000) : scn (quoQ l) 0 [] = .ok [⟨4, l, 0, 0⟩, ⟨6, [], 0, (quoQ l).length⟩] := by
  have hs := stp_quo l [] h
  rw [List.append_nil] at hs
  obtain ⟨u, hu⟩ : ∃ u, quoQ l = 34 :: u := ⟨quo l ++ [34], rfl⟩
  rw [hu] at hs ⊢
  rw [scn, hs]
  simp only
  have e : List.drop ((34 :: u).length - 1) u = [] := by simp
  rw [e, scn]
  simp
theorem scT_quo (l : List UInt8) (h : l.length ≤ 10000) (h2 : (quoQ l).length ≤ 20000) : scT (quoQ l) = ([⟨4, l, 0, 0⟩, ⟨6, [], 0, (quoQ l).length⟩], 0, 0) := by
  unfold scT
  rw [if_neg (by omega), scn_quo l h]

set_option maxRecDepth 20000 in
set_option maxHeartbeats 4000000 in
theorem quotes_walk (s : ByteArray) (w : World) (hs : s.size ≤ 1048576) : Calls Try.prog 4 #[.string s] w fun e w' => e = .returned (.bool true) ∧ Below w.heap.size w w' := by
  have CQ := fun w => quote_any s w hs
  have CR := fun w => rQuote_any s w hs
  have hsl : s.data.toList.length = s.size := by rw [Array.length_toList]; rfl
  have hsx : (⟨s.data.toList.toArray⟩ : ByteArray) = s := rfl
  obtain ⟨x, hx⟩ : ∃ x : ByteArray, (⟨(quoQ s.data.toList).toArray⟩ : ByteArray) = x := ⟨_, rfl⟩
  have hxl : x.data.toList = quoQ s.data.toList := by rw [← hx]
  have hxs : x.size = (quoQ s.data.toList).length := by rw [← hx]; rfl
  have hxb : x.size ≤ 9223372036854775807 := by
    have := quo_len s.data.toList
    rw [hxs]; simp only [quoQ, List.length_cons, List.length_append, List.length_nil]; omega
  rw [hx] at CQ CR
  clear hx
  by_cases h1 : s.size ≤ 10000
  · by_cases h2 : x.size ≤ 20000
    · have hsc := scT_quo s.data.toList (by omega) (by omega)
      have CS := fun w => Scan_any x w hxb
      rw [hxl, hsc, ← hxs] at CS
      simp only at CS
      have g1 : (s.size : Int) ≤ 10000 := by omega
      have g2 : (x.size : Int) ≤ 20000 := by omega
      clear hsc hxl hxs hsl hsx h1 h2 hxb hs
      go_enter Try.func4, Try.ntmps4
      go_wp2_with (first
        | (go_at_call 11; refine (fixed_any _).mono ?_; rintro e w1 ⟨rfl, hb1⟩)
        | (go_at_call 13; refine (CQ _).mono ?_; rintro e w0 ⟨rfl, hb0⟩)
        | (go_at_call 14; refine (CR _).mono ?_; rintro e w2 ⟨rfl, hb2⟩)
        | (go_at_call 9; refine (CS _).mono ?_; rintro e w3 ⟨v3, rfl, ho3, hb3⟩; obtain ⟨g, cap, rfl, hg1, hg2, hg3, hcs⟩ := row_cells ho3 (by simp); have k0 := hcs 0 _ rfl; have k1 : w3.cell? ⟨g, 1, none⟩ = some (.string s) := hcs 1 _ rfl; have k3 := hcs 3 _ rfl; have k7 := hcs 7 _ rfl; have far := fun o u hu => alloc_cell (W := w3) (b := g) (o := o) (v := some u) hg2 hu; have m0 := far 0 _ k0; have m1 := far 1 _ k1; have m3 := far 3 _ k3; have m7 := far 7 _ k7; clear far hcs k0 k1 k3 k7))
      go_ret
      exact ⟨rfl, (((hb0.trans (hb1.mono hb0.size)).trans (hb2.mono (Nat.le_trans hb0.size hb1.size))).trans (hb3.mono (Nat.le_trans hb0.size (Nat.le_trans hb1.size hb2.size)))).alloc (Nat.le_trans hb0.size (Nat.le_trans hb1.size (Nat.le_trans hb2.size hb3.size))) _⟩
    · have g1 : (s.size : Int) ≤ 10000 := by omega
      have g2 : (20000 : Int) < (x.size : Int) := by omega
      clear hxl hxs hsl hsx h1 h2 hxb hs
      go_enter Try.func4, Try.ntmps4
      go_wp2_with (first
        | (go_at_call 11; refine (fixed_any _).mono ?_; rintro e w1 ⟨rfl, hb1⟩)
        | (go_at_call 13; refine (CQ _).mono ?_; rintro e w0 ⟨rfl, hb0⟩)
        | (go_at_call 14; refine (CR _).mono ?_; rintro e w2 ⟨rfl, hb2⟩))
      go_ret
      exact ⟨rfl, (hb0.trans (hb1.mono hb0.size)).trans (hb2.mono (Nat.le_trans hb0.size hb1.size))⟩
  · have g1 : (10000 : Int) < (s.size : Int) := by omega
    clear hxl hxs hsl hsx h1 hxb hs
    go_enter Try.func4, Try.ntmps4
    go_wp2_with (first
      | (go_at_call 11; refine (fixed_any _).mono ?_; rintro e w1 ⟨rfl, hb1⟩)
      | (go_at_call 13; refine (CQ _).mono ?_; rintro e w0 ⟨rfl, hb0⟩)
      | (go_at_call 14; refine (CR _).mono ?_; rintro e w2 ⟨rfl, hb2⟩))
    go_ret
    exact ⟨rfl, (hb0.trans (hb1.mono hb0.size)).trans (hb2.mono (Nat.le_trans hb0.size hb1.size))⟩

end Go.Proofs.Ytgjeiepcbenejaa

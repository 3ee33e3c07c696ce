/- The walks of while and choice. -/
import Derived.Test.YtlgkfhipobdcfabGreatDoorCg24
namespace Go.Proofs.YtlgkfhipobdcfabGreatDoor
open Go.RowKit

/-- A row is stored as the kids: the world behind it, named. -/
theorem Nd.fill {b m : Nat} {T l : List Tok} {W : World} {X : Nat} {k : Int} {t : List UInt8} {n p : Int} {a a' : Option Addr} {c c' : Nat} {f f' : F} {w : World} (h : Nd b m T l W X k t n p a c f w) (hkl : KL 25 (fun g => X < g) w (.slice a' f'.len c') f') (hf : f'.len + l.length ≤ T.length) :
    ∃ wF, w.setCell ⟨X, 4, none⟩ (.slice a' f'.len c') = wF ∧ Nd b m T l W X k t n p a' c' f' wF := by
  have hlt := h.lt
  exact ⟨_, rfl, h.tk.new (by omega) hlt.2.1 _, h.res.set (by omega) _, h.box.put4 _, hkl.set (Nat.lt_irrefl _) _, hf, h.lt⟩
theorem Nd.fillC {b m : Nat} {T l : List Tok} {W : World} {X : Nat} {k : Int} {t : List UInt8} {n p : Int} {a a' : Option Addr} {c c' cnt : Nat} {f f' : F} {w : World} (h : Nd b m T l W X k t n p a c f w) (hc : f'.len = cnt) (hkl : KL 25 (fun g => X < g) w (.slice a' cnt c') f') (hf : cnt + l.length ≤ T.length) :
    ∃ wF, w.setCell ⟨X, 4, none⟩ (.slice a' cnt c') = wF ∧ Nd b m T l W X k t n p a' c' f' wF := by
  subst hc
  exact h.fill hkl hf
theorem PS.len {b m : Nat} {T l : List Tok} {W : World} (h : PS b m T l W) : l.length ≤ T.length := by
  obtain ⟨i, _, _, h7⟩ := h.plc
  omega
theorem body_len {N : Nat} {l l' : List Tok} {f : F} (h : bodyP (pr N) l .ok = .ok f l') : f.len = 1 ∧ l'.length + 2 ≤ l.length := by
  obtain ⟨b, l1, h1, h2, h3⟩ := sz_body (sz_all N) (fun _ _ _ _ => pr_len) h
  obtain ⟨rfl, rfl⟩ := ok_inj h3
  exact ⟨h1, h2⟩
theorem body_ends {N : Nat} {l l' : List Tok} {f : F} (h : bodyP (pr N) l .ok = .ok f l') (hl : Ends l) : Ends l' := by
  have := en_body (en_all N) hl (k := .ok) (fun _ _ h => h)
  rw [h] at this
  exact this

set_option maxRecDepth 20000 in
set_option maxHeartbeats 8000000 in
theorem while_any (N : Nat) (H : CC N) (b m : Nat) (T l : List Tok) (t : Tok) (W : World) (h : PS b m T (t :: l) W) (h56 : cls t ≠ 56) (hr : whileP (pr N) (t :: l) ≠ .out) : Calls Tryz.prog 59 #[.pointer (some ⟨b, 0, none⟩)] W (PN b m T W (whileP (pr N) (t :: l))) := by
  have hlt := h.lt
  have hbW : W.heap.size ≠ b := by omega
  have hT := h.len
  obtain ⟨R, hR⟩ : ∃ R, whileP (pr N) (t :: l) = R := ⟨_, rfl⟩
  rw [hR] at hr ⊢
  unfold whileP at hR
  change (pr N (.ex 0) l).bind _ = R at hR
  have CE := fun W h => H.ex 0 b m T l W h
  cases he : pr N (.ex 0) l with
  | out => rw [he] at hR; exact absurd hR.symm hr
  | bad p2 =>
    rw [he] at hR CE
    simp only [PR.bind] at hR
    subst hR
    go_enter Tryz.func59, Tryz.ntmps59
    go_wp2_with (first | (go_at_call 53; refine (take_p b m T l t _ (h.alloc _) h56).mono ?_; rintro e w1 ⟨rfl, hT1⟩; have D := Nd.begin ((h.tk.alloc _).trans hT1) ((Bx.new W 25 _).ky hT1.ky hbW) (by omega) 25 [] 0 t.p) | (go_at_call 79; refine (CE _ D.tk.ps (by simp)).mono ?_; rintro e w3 ⟨he, hk⟩; unfold refp at he; subst he))
    exact ⟨rfl, rfl, D.tk.ky.trans hk⟩
  | ok g l2 =>
    have hlen := pr_len he
    rw [he] at hR CE
    simp only [PR.bind] at hR
    rw [bodyP_bind] at hR
    have CB := fun W h => body_any N H b m T l2 W h
    have hgl : g.len = 1 := sz_all _ _ _ _ _ he
    simp only [st] at hlen
    cases hb : bodyP (pr N) l2 .ok with
    | out => rw [hb] at hR; exact absurd hR.symm hr
    | bad p2 =>
      rw [hb] at hR CB
      simp only [PR.bind] at hR
      subst hR
      go_enter Tryz.func59, Tryz.ntmps59
      go_wp2_with (first | (go_at_call 53; refine (take_p b m T l t _ (h.alloc _) h56).mono ?_; rintro e w1 ⟨rfl, hT1⟩; have D := Nd.begin ((h.tk.alloc _).trans hT1) ((Bx.new W 25 _).ky hT1.ky hbW) (by omega) 25 [] 0 t.p; have hD := D.box.lt) | (go_at_call 79; refine (CE _ D.tk.ps (by simp)).mono ?_; rintro e w3 ⟨k, tt, n, p, a1, c1, ks, rfl, rfl, hTN, hTk⟩; have D3 := (D.took hTk (by omega)).alloc (.cells #[.int .i64 (k), .string ⟨(tt).toArray⟩, .int .i64 (n), .int .i64 (p), .slice a1 ks.len c1] 25); have C3 := (hTN.mono (Q := fun g => w1.heap.size < g) (fun g hg _ => Nat.lt_of_lt_of_le hD hg)).alloc (.cells #[.int .i64 (k), .string ⟨(tt).toArray⟩, .int .i64 (n), .int .i64 (p), .slice a1 ks.len c1] 25); have Q3 := Bx.new w3 25 #[.int .i64 k, .string ⟨tt.toArray⟩, .int .i64 n, .int .i64 p, .slice a1 ks.len c1]; have s3 : w3.heap.size ≠ b := (by have := hTk.ps.lt; omega)))
      have D1 := D3.drew
      have Q1 := Q3.drew
      have hDl := D1.lt
      obtain ⟨p0, p1, p2', p3, p4⟩ := Q1.five
      go_region_dies
      all_goals
        refine (CB _ D1.tk.ps (by simp)).mono ?_
        rintro e w5 ⟨he, hk⟩
        unfold refp at he
        subst he
        exact ⟨rfl, rfl, D1.tk.ky.trans hk⟩
    | ok g3 l3 =>
      obtain ⟨hl3, hl3'⟩ := body_len hb
      rw [hb] at hR CB
      simp only [PR.bind] at hR
      subst hR
      go_enter Tryz.func59, Tryz.ntmps59
      go_wp2_with (first | (go_at_call 53; refine (take_p b m T l t _ (h.alloc _) h56).mono ?_; rintro e w1 ⟨rfl, hT1⟩; have D := Nd.begin ((h.tk.alloc _).trans hT1) ((Bx.new W 25 _).ky hT1.ky hbW) (by omega) 25 [] 0 t.p; have hD := D.box.lt) | (go_at_call 79; refine (CE _ D.tk.ps (by simp)).mono ?_; rintro e w3 ⟨k, tt, n, p, a1, c1, ks, rfl, rfl, hTN, hTk⟩; have D3 := (D.took hTk (by omega)).alloc (.cells #[.int .i64 (k), .string ⟨(tt).toArray⟩, .int .i64 (n), .int .i64 (p), .slice a1 ks.len c1] 25); have C3 := (hTN.mono (Q := fun g => w1.heap.size < g) (fun g hg _ => Nat.lt_of_lt_of_le hD hg)).alloc (.cells #[.int .i64 (k), .string ⟨(tt).toArray⟩, .int .i64 (n), .int .i64 (p), .slice a1 ks.len c1] 25); have Q3 := Bx.new w3 25 #[.int .i64 k, .string ⟨tt.toArray⟩, .int .i64 n, .int .i64 p, .slice a1 ks.len c1]; have s3 : w3.heap.size ≠ b := (by have := hTk.ps.lt; omega)))
      have D1 := D3.drew
      have Q1 := Q3.drew
      have hDl := D1.lt
      obtain ⟨p0, p1, p2', p3, p4⟩ := Q1.five
      have C1 := C3.keep (w' := (w3.alloc (.cells #[.int .i64 (k), .string ⟨(tt).toArray⟩, .int .i64 (n), .int .i64 (p), .slice a1 ks.len c1] 25)).drew) fun _ _ _ => rfl
      have hX1 : w1.heap.size < (w3.alloc (.cells #[.int .i64 (k), .string ⟨(tt).toArray⟩, .int .i64 (n), .int .i64 (p), .slice a1 ks.len c1] 25)).heap.size := D1.box.lt
      go_region_with (go_at_call 58; refine (CB _ D1.tk.ps (by simp)).mono ?_; rintro e w5 ⟨k2, tt2, n2, p2, a2, c2, ks2, rfl, rfl, hTN2, hTk2⟩; have D5 := D1.took hTk2 (by omega); have K5 := Q1.ky hTk2.ky s3; have C5 := C1.ky hTk2.ky (by omega); obtain ⟨s0, s1, s2, s3', s4⟩ := K5.five; obtain ⟨-, -, -, -, v4⟩ := D5.box.fiveA; obtain ⟨-, -, -, -, g4⟩ := D5.box.frozen5A; have hx5 := D5.box.lt; have R5 := C5.row2 (Q := fun g => w1.heap.size < g) hTN2 (fun _ e _ => e) (fun g hg _ => Nat.lt_of_lt_of_le hX1 hg) hx5; obtain ⟨wF, hwF, DF⟩ := (D5.alloc _).fillC (f' := (one k tt n p ks).app (one k2 tt2 n2 p2 ks2)) (cnt := 2) rfl R5 (by simp only [List.length_cons] at hT; omega); obtain ⟨b0, b1, b2, b3, -⟩ := DF.box.five; have b4 : wF.cell? ⟨w1.heap.size, 4, none⟩ = some (.slice (some ⟨w5.heap.size, 0, none⟩) 2 2) := DF.box.c 4 _ rfl; obtain ⟨q0, q1, q2, q3, q4⟩ := DF.res.five; obtain ⟨f0, f1, f2, f3, f4⟩ := DF.res.frozen5)
      all_goals
        go_wp2
        refine bodyPost_ret (v := (.agg #[.int .i64 (25), .string ⟨#[]⟩, .int .i64 (0), .int .i64 (t.p), .slice (some ⟨w5.heap.size, 0, none⟩) 2 2])) (by simp [results, Tryz.results59, go_sem, q0, q1, q2, q3, q4]) rfl ?_
        exact DF.ret _ _ _ _ _

end Go.Proofs.YtlgkfhipobdcfabGreatDoor

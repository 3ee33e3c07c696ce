import Derived.Test.YtlgkfhipobdcfaaGreatDoorCg34
namespace Go.Proofs.YtlgkfhipobdcfaaGreatDoor
open Go.RowKit
set_option maxRecDepth 20000
theorem enters132 : ∀ args w,(callFunc 132 args).run Tryz.prog w = .ok (.enter 132 args) w:=enters_of Tryz.func132 (by kernel_rfl) rfl
structure Lv (b m : Nat) (T : List Tok) (s : Sx) (W : World) (X : Nat) (cur : Array Value) (w : World) : Prop where
  tk : Tt b m T s W w
  res : Bx W.heap.size 32 #[.int .i64 0,.string ⟨#[]⟩,.int .i64 0,.int .i64 0,.slice none 0 0] w
  box : Bx X 32 cur w
  lt : b < W.heap.size ∧ m ≤ W.heap.size ∧ W.heap.size < X
section
variable {b m : Nat} {T : List Tok} {s s' : Sx} {W : World} {X : Nat} {cur : Array Value} {w w' : World}
theorem Lv.below (h : Lv b m T s W X cur w) (hb : Below w.heap.size w w') : Lv b m T s W X cur w':=⟨Tr.below h.tk hb,h.res.below hb,h.box.below hb,h.lt⟩
theorem Lv.alloc (h : Lv b m T s W X cur w) (o : Obj) : Lv b m T s W X cur (w.alloc o):=h.below ((Below.refl _ w).alloc (Nat.le_refl _) o)
theorem Lv.drew (h : Lv b m T s W X cur w) : Lv b m T s W X cur w.drew:=⟨Tr.drew h.tk,h.res.drew,h.box.drew,h.lt⟩
theorem Lv.took (h : Lv b m T s W X cur w) (hT : Tt b m T s' w w') : Lv b m T s' W X cur w':=by
  have hlt:=h.lt
  exact ⟨Tr.trans h.tk hT,h.res.ky hT.ky (by omega),h.box.ky hT.ky (by omega),h.lt⟩
theorem Lv.set (h : Lv b m T s W X cur w) (j : Nat) (u : Value) : Lv b m T s W X (cur.setIfInBounds j u) (w.setCell ⟨X,j,none⟩ u):=by
  have hlt:=h.lt
  exact ⟨Tr.new h.tk (by omega) hlt.2.1 u,h.res.set (by omega) u,h.box.put u,h.lt⟩
theorem Lv.lk {k : Int} {t : List UInt8} {n p : Int} (h : Lv b m T s W X #[.int .i64 k,.string ⟨t.toArray⟩,.int .i64 n,.int .i64 p,.slice none 0 0] w) : Lk b m T s W X k t n p none 0 .nil w:=⟨h.tk,h.res,h.box,KL.nil _ _ _,h.lt⟩
theorem Lk.lv {k : Int} {t : List UInt8} {n p : Int} {a : Option Addr} {c : Nat} {f : F} (h : Lk b m T s W X k t n p a c f w) : Lv b m T s W X #[.int .i64 k,.string ⟨t.toArray⟩,.int .i64 n,.int .i64 p,.slice a f.len c] w:=⟨h.tk,h.res,h.box,h.lt⟩
end
theorem Lv.kid {b m : Nat} {T : List Tok} {s : Sx} {W : World} {X : Nat} {k : Int} {t : List UInt8} {n p : Int} {v : Value} {cur : Array Value} {f' : F} {q : Nat} {w : World} (h : Lv b m T s W X #[.int .i64 k,.string ⟨t.toArray⟩,.int .i64 n,.int .i64 p,v] w) (hf : KF 32 w (fun g=>W.heap.size < g ∧ g ≠ X) cur.toList f') (hq : f'.len = q) (hl : q ≤ maxLen) :
    Lk b m T s W X k t n p (some ⟨w.heap.size,0,none⟩) q f' ((w.alloc (.cells cur 32)).setCell ⟨X,4,none⟩ (.slice (some ⟨w.heap.size,0,none⟩) q q)):=by
  subst hq
  have hlt:=h.lt
  have hX:=h.box.lt
  have hW:=h.res.lt
  have h1:=h.alloc (.cells cur 32)
  have hk : KL 32 (fun g=>W.heap.size < g ∧ g ≠ X) (w.alloc (.cells cur 32)) (.slice (some ⟨w.heap.size,0,none⟩) f'.len f'.len) f':=KL.made hf ⟨hW,by omega⟩ rfl hl
  exact ⟨Tr.new h1.tk (by omega) hlt.2.1 _,h1.res.set (by omega) _,h1.box.put4 _,hk.keep fun g hg _=>Below.heap_setCell _ _ _ g hg.2,h.lt⟩
theorem Lr.tell' {b m : Nat} {T : List Tok} {s : Sx} {W : World} {X : Nat} {k : Int} {t : List UInt8} {n p : Int} {a : Option Addr} {c : Nat} {ks : F} {w : World} (h : Lr b m T s W X k t n p (.slice a ks.len c) ks w) :
    RN b m T W s (one k t n p ks) (.returned (.agg #[.int .i64 (k),.string ⟨(t).toArray⟩,.int .i64 (n),.int .i64 (p),.slice a ks.len c])) (((((w.setCell ⟨W.heap.size,0,none⟩ (.int .i64 k)).setCell ⟨W.heap.size,1,none⟩ (.string ⟨t.toArray⟩)).setCell ⟨W.heap.size,2,none⟩ (.int .i64 n)).setCell ⟨W.heap.size,3,none⟩ (.int .i64 p)).setCell ⟨W.heap.size,4,none⟩ (.slice a ks.len c)):=by
  have hlt:=h.lt
  exact ⟨k,t,n,p,a,c,ks,rfl,rfl,(h.tn.five (X:=W.heap.size) (by omega) _ _ _ _ _).mono fun g hg _=>by omega,Tr.five h.tk (Nat.le_refl _) hlt.2.1 _ _ _ _ _⟩
theorem c_kind {s : Sx} (hf : s.f < 0) : s.c = cls s.t:=by unfold Sx.c;rw [if_pos hf]
set_option maxHeartbeats 8000000 in
theorem ropd_any (b m : Nat) (T : List Tok) (s : Sx) (g : F) (s2 : Sx) (hS : Stp T (CR T) .opd s g s2) (W : World) (h : RT b m T s W) : Calls Tryz.prog 109 #[.pointer (some ⟨b, 0, none⟩)] W (RN b m T W s2 g) := by
  have hlt := RT.lt h
  have hbW : W.heap.size ≠ b := by omega
  obtain ⟨hes, hsm⟩ := RT.sm h
  have B0 := Bx.new W 32 #[.int .i64 0, .string ⟨#[]⟩, .int .i64 0, .int .i64 0, .slice none 0 0]
  have T0 := Tr.alloc (RS.tr h) (.cells #[.int .i64 0, .string ⟨#[]⟩, .int .i64 0, .int .i64 0, .slice none 0 0] 32)
  obtain ⟨A, hA⟩ : ∃ A, W.alloc (.cells #[.int .i64 0, .string ⟨#[]⟩, .int .i64 0, .int .i64 0, .slice none 0 0] 32) = A := ⟨_, rfl⟩
  have hAs : (W.alloc (.cells #[.int .i64 0, .string ⟨#[]⟩, .int .i64 0, .int .i64 0, .slice none 0 0] 32)).heap.size = W.heap.size + 1 := by simp
  rw [hA] at B0 T0 hAs
  have hfs : s.f < 0 := by cases hS <;> assumption
  have hck := c_kind hfs
  obtain ⟨gg, cap, i, h1, h2, hf, h3, h4, c0, c1, c2, c3, g1, g2, d0, d1, d2, d3⟩ := (RT.cons T0.rs).readsA
  generalize hst : s.t = t at *
  obtain ⟨tk, tt, tv, tp⟩ := t
  simp only at c0 c1 c2 c3 d0 d1 d2 d3
  have BV := (Bx.new A 63 #[.int .i64 tk, .string ⟨tt.toArray⟩, .int .i64 tv, .int .i64 tp]).drew
  have TV := Tr.drew (Tr.alloc T0 (.cells #[.int .i64 tk, .string ⟨tt.toArray⟩, .int .i64 tv, .int .i64 tp] 63))
  have BAV := (B0.alloc (.cells #[.int .i64 tk, .string ⟨tt.toArray⟩, .int .i64 tv, .int .i64 tp] 63)).drew
  have hVs : ((A.alloc (.cells #[.int .i64 tk, .string ⟨tt.toArray⟩, .int .i64 tv, .int .i64 tp] 63)).drew).heap.size = W.heap.size + 2 := by simp [hAs]
  obtain ⟨V, hV⟩ : ∃ V, (A.alloc (.cells #[.int .i64 tk, .string ⟨tt.toArray⟩, .int .i64 tv, .int .i64 tp] 63)).drew = V := ⟨_, rfl⟩
  rw [hV] at BV TV BAV hVs
  rw [hAs] at BV
  have LL := (Lk.begin TV BAV hlt 0 [] 0 (tp : Int)).lv
  have BY := BV.alloc (.cells #[.int .i64 0, .string ⟨#[]⟩, .int .i64 0, .int .i64 tp, .slice none 0 0] 32)
  obtain ⟨V2, hV2⟩ : ∃ V2, V.alloc (.cells #[.int .i64 0, .string ⟨#[]⟩, .int .i64 0, .int .i64 tp, .slice none 0 0] 32) = V2 := ⟨_, rfl⟩
  rw [hV2] at BY
  have LL : Lv b m T s W V.heap.size #[.int .i64 0, .string ⟨#[]⟩, .int .i64 0, .int .i64 tp, .slice none 0 0] V2 := by rw [← hV2]; exact LL
  obtain ⟨e0, e1, e2, e3⟩ := BV.four
  have HV : Hid ((A.alloc (.cells #[.int .i64 tk, .string ⟨tt.toArray⟩, .int .i64 tv, .int .i64 tp] 63)).drew = V) := hV
  have HV2 : Hid (V.alloc (.cells #[.int .i64 0, .string ⟨#[]⟩, .int .i64 0, .int .i64 tp, .slice none 0 0] 32) = V2) := hV2
  have HS : Hid (Stp T (CR T) .opd s g s2) := hS
  clear BV TV BAV hV2 hV hS
  go_enter Tryz.func109, Tryz.ntmps109
  go_wp2_with fail
  go_cut [3] from 6 to 15 (fun v3 wx => v3 = .pointer (some ⟨W.heap.size + 1, 0, none⟩) ∧ wx = V)
  case first =>
    go_region
    all_goals
      go_wp2_with fail
      go_meet
      exact ⟨rfl, HV.out⟩
  case rest =>
    obtain ⟨rfl, rfl⟩ := hcut
    clear h1 h2 hf c0 c1 c2 c3 g1 g2 d0 d1 d2 d3 HV T0 B0
    obtain ⟨X, hX⟩ : ∃ X, wc.heap.size = X := ⟨_, rfl⟩
    rw [hX] at LL
    have hYX : W.heap.size + 1 < X := by omega
    clear hVs
    go_upto_region 4 with fail
    rw [HV2.out]
    clear HV2 e0 e1 e2 e3
    obtain ⟨Y, hY⟩ : ∃ Y, W.heap.size + 1 = Y := ⟨_, rfl⟩
    rw [hY] at BY hYX ⊢
    obtain ⟨e0, e1, e2, e3⟩ := BY.four
    have hS := HS.out
    clear HS
    cases hS with
    | num hf' hc =>
      have hk : tk = 3 := by rw [hck] at hc; exact_mod_cast cls_kind ⟨tk, tt, tv, tp⟩ 53 hc (by decide)
      subst hk
      have D := LL
      obtain ⟨z0, z1, z2, z3, z4⟩ := D.box.frozen5
      obtain ⟨v0, v1, v2, v3, v4⟩ := D.box.five
      have D2 : Lv b m T s W X #[.int .i64 4, .string ⟨#[]⟩, .int .i64 tv, .int .i64 tp, .slice none 0 0] _ := ((D.set 0 (.int .i64 4)).set 2 (.int .i64 tv)).drew
      have h56 : s.c ≠ 56 := by rw [hc]; decide
      obtain ⟨i', g2, f1, wi, hI⟩ := RT.inc D2.tk.rs h56
      have D3 := D2.took hI
      have HD3 : Hid (Lv b m T s.tl W X #[.int .i64 4, .string ⟨#[]⟩, .int .i64 tv, .int .i64 tp, .slice none 0 0] _) := D3
      obtain ⟨V3, hV3⟩ : ∃ V3, ((V2.setCell ⟨X, 0, none⟩ (.int .i64 4)).setCell ⟨X, 2, none⟩ ((.int .i64 tv))).drew = V3 := ⟨_, rfl⟩
      rw [hV3] at D2 g2 f1
      have HD3 : Hid (Lv b m T s.tl W X #[.int .i64 4, .string ⟨#[]⟩, .int .i64 tv, .int .i64 tp, .slice none 0 0] (V3.setCell ⟨b, 1, none⟩ (.int .i64 ((i' : Int) + 1)))) := by rw [← hV3]; exact D3
      have HV3 : Hid (((V2.setCell ⟨X, 0, none⟩ (.int .i64 4)).setCell ⟨X, 2, none⟩ ((.int .i64 tv))).drew = V3) := hV3
      clear D D2 D3 hI LL hV3
      go_wp2_with fail
      go_cut [] from 25 to 28 (fun wx => wx = V3)
      case first =>
        go_region
        all_goals
          go_wp2_with fail
          go_meet
          exact HV3.out
      case rest =>
        obtain rfl := hcut
        clear HV3
        obtain ⟨V4, hV4⟩ : ∃ V4, wc.setCell ⟨b, 1, none⟩ (.int .i64 ((i' : Int) + 1)) = V4 := ⟨_, rfl⟩
        have D4 := HD3.out
        rw [hV4] at D4
        clear HD3
        obtain ⟨x0, x1, x2, x3, x4⟩ := D4.box.five
        obtain ⟨q0, q1, q2, q3, q4⟩ := D4.res.five
        obtain ⟨m0, m1, m2, m3, m4⟩ := D4.res.frozen5
        go_wp2
        obtain ⟨y0, y1, y2, y3, y4⟩ := (D4.res.five_put (.int .i64 4) (.string ⟨#[]⟩) (.int .i64 tv) (.int .i64 tp) (.slice none 0 0)).five
        refine bodyPost_ret (v := .agg #[.int .i64 4, .string ⟨#[]⟩, .int .i64 tv, .int .i64 tp, .slice none 0 0]) (by simp [results, Tryz.results109, go_sem, y0, y1, y2, y3, y4]) rfl ?_
        exact (by rw [hst]; exact (Lv.lk (t := []) D4).lr.tell')
    | str hf' hc =>
      have hk : tk = 4 := by rw [hck] at hc; exact_mod_cast cls_kind ⟨tk, tt, tv, tp⟩ 54 hc (by decide)
      subst hk
      have D := LL
      obtain ⟨z0, z1, z2, z3, z4⟩ := D.box.frozen5
      obtain ⟨v0, v1, v2, v3, v4⟩ := D.box.five
      have D2 : Lv b m T s W X #[.int .i64 5, .string ⟨tt.toArray⟩, .int .i64 0, .int .i64 tp, .slice none 0 0] _ := ((D.set 0 (.int .i64 5)).set 1 (.string ⟨tt.toArray⟩)).drew
      have h56 : s.c ≠ 56 := by rw [hc]; decide
      obtain ⟨i', g2, f1, wi, hI⟩ := RT.inc D2.tk.rs h56
      have D3 := D2.took hI
      have HD3 : Hid (Lv b m T s.tl W X #[.int .i64 5, .string ⟨tt.toArray⟩, .int .i64 0, .int .i64 tp, .slice none 0 0] _) := D3
      obtain ⟨V3, hV3⟩ : ∃ V3, ((V2.setCell ⟨X, 0, none⟩ (.int .i64 5)).setCell ⟨X, 1, none⟩ ((.string ⟨tt.toArray⟩))).drew = V3 := ⟨_, rfl⟩
      rw [hV3] at D2 g2 f1
      have HD3 : Hid (Lv b m T s.tl W X #[.int .i64 5, .string ⟨tt.toArray⟩, .int .i64 0, .int .i64 tp, .slice none 0 0] (V3.setCell ⟨b, 1, none⟩ (.int .i64 ((i' : Int) + 1)))) := by rw [← hV3]; exact D3
      have HV3 : Hid (((V2.setCell ⟨X, 0, none⟩ (.int .i64 5)).setCell ⟨X, 1, none⟩ ((.string ⟨tt.toArray⟩))).drew = V3) := hV3
      clear D D2 D3 hI LL hV3
      go_wp2_with fail
      go_cut [] from 40 to 43 (fun wx => wx = V3)
      case first =>
        go_region
        all_goals
          go_wp2_with fail
          go_meet
          exact HV3.out
      case rest =>
        obtain rfl := hcut
        clear HV3
        obtain ⟨V4, hV4⟩ : ∃ V4, wc.setCell ⟨b, 1, none⟩ (.int .i64 ((i' : Int) + 1)) = V4 := ⟨_, rfl⟩
        have D4 := HD3.out
        rw [hV4] at D4
        clear HD3
        obtain ⟨x0, x1, x2, x3, x4⟩ := D4.box.five
        obtain ⟨q0, q1, q2, q3, q4⟩ := D4.res.five
        obtain ⟨m0, m1, m2, m3, m4⟩ := D4.res.frozen5
        go_wp2
        obtain ⟨y0, y1, y2, y3, y4⟩ := (D4.res.five_put (.int .i64 5) (.string ⟨tt.toArray⟩) (.int .i64 0) (.int .i64 tp) (.slice none 0 0)).five
        refine bodyPost_ret (v := .agg #[.int .i64 5, .string ⟨tt.toArray⟩, .int .i64 0, .int .i64 tp, .slice none 0 0]) (by simp [results, Tryz.results109, go_sem, y0, y1, y2, y3, y4]) rfl ?_
        exact (by rw [hst]; exact (Lv.lk (t := tt) D4).lr.tell')
    | nil hf' hc =>
      have hk3 : ¬ tk = 3 := fun e => by have := cls_of_kind ⟨tk, tt, tv, tp⟩ 3 e (by decide); omega
      have hk3' : (tk == 3) = false := by simpa using hk3
      have hk4 : ¬ tk = 4 := fun e => by have := cls_of_kind ⟨tk, tt, tv, tp⟩ 4 e (by decide); omega
      have hk4' : (tk == 4) = false := by simpa using hk4
      have KY := fun W h => take_y b m T s 27 (by decide) (by decide) hc W h
      rw [show wds 27 = [110, 105, 108] from rfl] at KY
      go_wp2_with fail
      refine (KY _ LL.tk.rs).mono ?_; rintro e' w9 ⟨rfl, hT9⟩
      have L9 := LL.took hT9
      obtain ⟨x0, x1, x2, x3, x4⟩ := L9.box.five
      obtain ⟨z0, z1, z2, z3, z4⟩ := L9.box.frozen5
      have D4 : Lv b m T s.tl W X #[.int .i64 1, .string ⟨#[]⟩, .int .i64 0, .int .i64 tp, .slice none 0 0] _ := L9.set 0 (.int .i64 1)
      obtain ⟨V4, hV4⟩ : ∃ V4, w9.setCell ⟨X, 0, none⟩ (.int .i64 1) = V4 := ⟨_, rfl⟩
      rw [hV4] at D4
      obtain ⟨u0, u1, u2, u3, u4⟩ := D4.box.five
      obtain ⟨q0, q1, q2, q3, q4⟩ := D4.res.five
      obtain ⟨m0, m1, m2, m3, m4⟩ := D4.res.frozen5
      go_wp2_with fail
      obtain ⟨y0, y1, y2, y3, y4⟩ := (D4.res.five_put (.int .i64 1) (.string ⟨#[]⟩) (.int .i64 0) (.int .i64 tp) (.slice none 0 0)).five
      refine bodyPost_ret (v := .agg #[.int .i64 1, .string ⟨#[]⟩, .int .i64 0, .int .i64 tp, .slice none 0 0]) (by simp [results, Tryz.results109, go_sem, y0, y1, y2, y3, y4]) rfl ?_
      rw [hst]
      exact (Lv.lk (t := []) D4).lr.tell'
    | tru hf' hc =>
      have hk3 : ¬ tk = 3 := fun e => by have := cls_of_kind ⟨tk, tt, tv, tp⟩ 3 e (by decide); omega
      have hk3' : (tk == 3) = false := by simpa using hk3
      have hk4 : ¬ tk = 4 := fun e => by have := cls_of_kind ⟨tk, tt, tv, tp⟩ 4 e (by decide); omega
      have hk4' : (tk == 4) = false := by simpa using hk4
      have KY := fun W h => take_y b m T s 28 (by decide) (by decide) hc W h
      rw [show wds 28 = [116, 114, 117, 101] from rfl] at KY
      have K27 := fun W h => take_n b m T s 27 (by decide) (by decide) (by rw [hc]; decide) W h
      rw [show wds 27 = [110, 105, 108] from rfl] at K27
      go_wp2_with fail
      refine (K27 _ LL.tk.rs).mono ?_; rintro e' w27 ⟨rfl, hT27⟩
      have BY := BY.ky hT27.ky (by omega)
      have LL := LL.took hT27
      obtain ⟨e0, e1, e2, e3⟩ := BY.four
      clear K27 hT27
      go_wp2_with fail
      refine (KY _ LL.tk.rs).mono ?_; rintro e' w9 ⟨rfl, hT9⟩
      have L9 := LL.took hT9
      obtain ⟨x0, x1, x2, x3, x4⟩ := L9.box.five
      obtain ⟨z0, z1, z2, z3, z4⟩ := L9.box.frozen5
      have D4 : Lv b m T s.tl W X #[.int .i64 2, .string ⟨#[]⟩, .int .i64 0, .int .i64 tp, .slice none 0 0] _ := L9.set 0 (.int .i64 2)
      obtain ⟨V4, hV4⟩ : ∃ V4, w9.setCell ⟨X, 0, none⟩ (.int .i64 2) = V4 := ⟨_, rfl⟩
      rw [hV4] at D4
      obtain ⟨u0, u1, u2, u3, u4⟩ := D4.box.five
      obtain ⟨q0, q1, q2, q3, q4⟩ := D4.res.five
      obtain ⟨m0, m1, m2, m3, m4⟩ := D4.res.frozen5
      go_wp2_with fail
      obtain ⟨y0, y1, y2, y3, y4⟩ := (D4.res.five_put (.int .i64 2) (.string ⟨#[]⟩) (.int .i64 0) (.int .i64 tp) (.slice none 0 0)).five
      refine bodyPost_ret (v := .agg #[.int .i64 2, .string ⟨#[]⟩, .int .i64 0, .int .i64 tp, .slice none 0 0]) (by simp [results, Tryz.results109, go_sem, y0, y1, y2, y3, y4]) rfl ?_
      rw [hst]
      exact (Lv.lk (t := []) D4).lr.tell'
    | fls hf' hc =>
      have hk3 : ¬ tk = 3 := fun e => by have := cls_of_kind ⟨tk, tt, tv, tp⟩ 3 e (by decide); omega
      have hk3' : (tk == 3) = false := by simpa using hk3
      have hk4 : ¬ tk = 4 := fun e => by have := cls_of_kind ⟨tk, tt, tv, tp⟩ 4 e (by decide); omega
      have hk4' : (tk == 4) = false := by simpa using hk4
      have KY := fun W h => take_y b m T s 29 (by decide) (by decide) hc W h
      rw [show wds 29 = [102, 97, 108, 115, 101] from rfl] at KY
      have K27 := fun W h => take_n b m T s 27 (by decide) (by decide) (by rw [hc]; decide) W h
      rw [show wds 27 = [110, 105, 108] from rfl] at K27
      have K28 := fun W h => take_n b m T s 28 (by decide) (by decide) (by rw [hc]; decide) W h
      rw [show wds 28 = [116, 114, 117, 101] from rfl] at K28
      go_wp2_with fail
      refine (K27 _ LL.tk.rs).mono ?_; rintro e' w27 ⟨rfl, hT27⟩
      have BY := BY.ky hT27.ky (by omega)
      have LL := LL.took hT27
      obtain ⟨e0, e1, e2, e3⟩ := BY.four
      clear K27 hT27
      go_wp2_with fail
      refine (K28 _ LL.tk.rs).mono ?_; rintro e' w28 ⟨rfl, hT28⟩
      have BY := BY.ky hT28.ky (by omega)
      have LL := LL.took hT28
      obtain ⟨e0, e1, e2, e3⟩ := BY.four
      clear K28 hT28
      go_wp2_with fail
      refine (KY _ LL.tk.rs).mono ?_; rintro e' w9 ⟨rfl, hT9⟩
      have L9 := LL.took hT9
      obtain ⟨x0, x1, x2, x3, x4⟩ := L9.box.five
      obtain ⟨z0, z1, z2, z3, z4⟩ := L9.box.frozen5
      have D4 : Lv b m T s.tl W X #[.int .i64 3, .string ⟨#[]⟩, .int .i64 0, .int .i64 tp, .slice none 0 0] _ := L9.set 0 (.int .i64 3)
      obtain ⟨V4, hV4⟩ : ∃ V4, w9.setCell ⟨X, 0, none⟩ (.int .i64 3) = V4 := ⟨_, rfl⟩
      rw [hV4] at D4
      obtain ⟨u0, u1, u2, u3, u4⟩ := D4.box.five
      obtain ⟨q0, q1, q2, q3, q4⟩ := D4.res.five
      obtain ⟨m0, m1, m2, m3, m4⟩ := D4.res.frozen5
      go_wp2_with fail
      obtain ⟨y0, y1, y2, y3, y4⟩ := (D4.res.five_put (.int .i64 3) (.string ⟨#[]⟩) (.int .i64 0) (.int .i64 tp) (.slice none 0 0)).five
      refine bodyPost_ret (v := .agg #[.int .i64 3, .string ⟨#[]⟩, .int .i64 0, .int .i64 tp, .slice none 0 0]) (by simp [results, Tryz.results109, go_sem, y0, y1, y2, y3, y4]) rfl ?_
      rw [hst]
      exact (Lv.lk (t := []) D4).lr.tell'
    | @una _ f1 _ hf' hc h1 =>
      have hk3 : ¬ tk = 3 := fun e => by have := cls_of_kind ⟨tk, tt, tv, tp⟩ 3 e (by decide); omega
      have hk3' : (tk == 3) = false := by simpa using hk3
      have hk4 : ¬ tk = 4 := fun e => by have := cls_of_kind ⟨tk, tt, tv, tp⟩ 4 e (by decide); omega
      have hk4' : (tk == 4) = false := by simpa using hk4
      have CE : ∀ W, RT b m T s.tl W → Calls Tryz.prog 72 #[.pointer (some ⟨b, 0, none⟩), .int .i64 7] W (RN b m T W s2 f1) := fun W h => h1.cl b m W h
      have h56 : s.c ≠ 56 := by omega
      have n27 : s.c ≠ 27 := by omega
      have n28 : s.c ≠ 28 := by omega
      have n29 : s.c ≠ 29 := by omega
      clear h1
      have K27 := fun W h => take_n b m T s 27 (by decide) (by decide) n27 W h
      rw [show wds 27 = [110, 105, 108] from rfl] at K27
      have K28 := fun W h => take_n b m T s 28 (by decide) (by decide) n28 W h
      rw [show wds 28 = [116, 114, 117, 101] from rfl] at K28
      have K29 := fun W h => take_n b m T s 29 (by decide) (by decide) n29 W h
      rw [show wds 29 = [102, 97, 108, 115, 101] from rfl] at K29
      go_wp2_with fail
      refine (K27 _ LL.tk.rs).mono ?_; rintro e' w27 ⟨rfl, hT27⟩
      have BY := BY.ky hT27.ky (by omega)
      have LL := LL.took hT27
      obtain ⟨e0, e1, e2, e3⟩ := BY.four
      clear K27 hT27
      go_wp2_with fail
      refine (K28 _ LL.tk.rs).mono ?_; rintro e' w28 ⟨rfl, hT28⟩
      have BY := BY.ky hT28.ky (by omega)
      have LL := LL.took hT28
      obtain ⟨e0, e1, e2, e3⟩ := BY.four
      clear K28 hT28
      go_wp2_with fail
      refine (K29 _ LL.tk.rs).mono ?_; rintro e' w29 ⟨rfl, hT29⟩
      have BY := BY.ky hT29.ky (by omega)
      have LL := LL.took hT29
      obtain ⟨e0, e1, e2, e3⟩ := BY.four
      clear K29 hT29
      go_upto_region 16 with fail
      go_cut [63] from 64 to 73 (fun v63 wx => v63 = .bool true ∧ Lv b m T s W X #[.int .i64 0, .string ⟨#[]⟩, .int .i64 0, .int .i64 tp, .slice none 0 0] wx ∧ Bx Y 63 #[.int .i64 tk, .string ⟨tt.toArray⟩, .int .i64 tv, .int .i64 tp] wx)
      case first =>
        rcases hc with hc | hc | hc
        · have K24 := fun W h => see_n b m T s 24 (by decide) (by decide) W h
          rw [show wds 24 = [110, 111, 116] from rfl, decide_eq_true hc] at K24
          go_wp2_with fail
          refine (K24 _ LL.tk.rs).mono ?_; rintro e' w24 ⟨rfl, hb24⟩
          have BY := BY.below hb24
          have LL := LL.below hb24
          obtain ⟨e0, e1, e2, e3⟩ := BY.four
          clear K24 hb24
          go_wp2_with fail
          go_meet
          exact ⟨rfl, LL, BY⟩
        · have K24 := fun W h => see_n b m T s 24 (by decide) (by decide) W h
          rw [show wds 24 = [110, 111, 116] from rfl, decide_eq_false (by rw [hc]; decide)] at K24
          have K25 := fun W h => see_n b m T s 25 (by decide) (by decide) W h
          rw [show wds 25 = [35] from rfl, decide_eq_true hc] at K25
          go_wp2_with fail
          refine (K24 _ LL.tk.rs).mono ?_; rintro e' w24 ⟨rfl, hb24⟩
          have BY := BY.below hb24
          have LL := LL.below hb24
          obtain ⟨e0, e1, e2, e3⟩ := BY.four
          clear K24 hb24
          go_wp2_with fail
          refine (K25 _ LL.tk.rs).mono ?_; rintro e' w25 ⟨rfl, hb25⟩
          have BY := BY.below hb25
          have LL := LL.below hb25
          obtain ⟨e0, e1, e2, e3⟩ := BY.four
          clear K25 hb25
          go_wp2_with fail
          go_meet
          exact ⟨rfl, LL, BY⟩
        · have K24 := fun W h => see_n b m T s 24 (by decide) (by decide) W h
          rw [show wds 24 = [110, 111, 116] from rfl, decide_eq_false (by rw [hc]; decide)] at K24
          have K25 := fun W h => see_n b m T s 25 (by decide) (by decide) W h
          rw [show wds 25 = [35] from rfl, decide_eq_false (by rw [hc]; decide)] at K25
          have K26 := fun W h => see_n b m T s 26 (by decide) (by decide) W h
          rw [show wds 26 = [45] from rfl, decide_eq_true hc] at K26
          go_wp2_with fail
          refine (K24 _ LL.tk.rs).mono ?_; rintro e' w24 ⟨rfl, hb24⟩
          have BY := BY.below hb24
          have LL := LL.below hb24
          obtain ⟨e0, e1, e2, e3⟩ := BY.four
          clear K24 hb24
          go_wp2_with fail
          refine (K25 _ LL.tk.rs).mono ?_; rintro e' w25 ⟨rfl, hb25⟩
          have BY := BY.below hb25
          have LL := LL.below hb25
          obtain ⟨e0, e1, e2, e3⟩ := BY.four
          clear K25 hb25
          go_wp2_with fail
          refine (K26 _ LL.tk.rs).mono ?_; rintro e' w26 ⟨rfl, hb26⟩
          have BY := BY.below hb26
          have LL := LL.below hb26
          obtain ⟨e0, e1, e2, e3⟩ := BY.four
          clear K26 hb26
          go_wp2_with fail
          go_meet
          exact ⟨rfl, LL, BY⟩
      case rest =>
        clear LL BY e0 e1 e2 e3
        obtain ⟨rfl, LL, BY⟩ := hcut
        obtain ⟨i', g2, f1', wi, hI⟩ := RT.inc LL.tk.rs h56
        have LI := LL.took hI
        have hYb : Y ≠ b := by omega
        have BI := BY.ky hI.ky (by omega)
        obtain ⟨V1, hV1⟩ : ∃ V1, wc.setCell ⟨b, 1, none⟩ (.int .i64 ((i' : Int) + 1)) = V1 := ⟨_, rfl⟩
        rw [hV1] at LI BI
        obtain ⟨e0, e1, e2, e3⟩ := BI.four
        obtain ⟨z0, z1, z2, z3, z4⟩ := LI.box.frozen5
        obtain ⟨v0, v1, v2, v3, v4⟩ := LI.box.five
        have D2 : Lv b m T s.tl W X #[.int .i64 10, .string ⟨tt.toArray⟩, .int .i64 0, .int .i64 tp, .slice none 0 0] _ := ((LI.set 0 (.int .i64 10)).set 1 (.string ⟨tt.toArray⟩)).drew
        obtain ⟨V3, hV3⟩ : ∃ V3, ((V1.setCell ⟨X, 0, none⟩ (.int .i64 10)).setCell ⟨X, 1, none⟩ (.string ⟨tt.toArray⟩)).drew = V3 := ⟨_, rfl⟩
        rw [hV3] at D2
        have HV3 : Hid (((V1.setCell ⟨X, 0, none⟩ (.int .i64 10)).setCell ⟨X, 1, none⟩ (.string ⟨tt.toArray⟩)).drew = V3) := hV3
        clear LL BY hI hV3 LI BI
        go_wp2_with fail
        go_cut [] from 81 to 84 (fun wx => wx = V3)
        case first =>
          go_region
          all_goals
            go_wp2_with fail
            go_meet
            exact HV3.out
        case rest =>
          obtain rfl := hcut
          clear HV3 e0 e1 e2 e3 z0 z1 z2 z3 z4 v0 v1 v2 v3 v4
          go_wp2_with fail
          refine (CE _ D2.tk.rs).mono ?_; rintro e' w9 ⟨k3, t3, n3, p3, a3, c3, ks3, rfl, rfl, hTN, hT9⟩
          have hX2 := D2.box.lt
          have hW2 := D2.lt
          have D3 := D2.took hT9
          have L4 := Lv.kid (t := tt) (q := 1) (cur := #[.int .i64 k3, .string ⟨t3.toArray⟩, .int .i64 n3, .int .i64 p3, .slice a3 ks3.len c3]) D3 (hTN.kf.mono fun g hg _ => ⟨by omega, by omega⟩) rfl (by unfold maxLen; omega)
          obtain ⟨p0, p1, p2, p3', p4⟩ := D3.box.fiveA
          obtain ⟨o0, o1, o2, o3, o4⟩ := D3.box.frozen5A
          obtain ⟨V5, hV5⟩ : ∃ V5, w9.alloc (.cells #[.int .i64 k3, .string ⟨t3.toArray⟩, .int .i64 n3, .int .i64 p3, .slice a3 ks3.len c3] 32) = V5 := ⟨_, rfl⟩
          have p4 := p4 (.cells #[.int .i64 k3, .string ⟨t3.toArray⟩, .int .i64 n3, .int .i64 p3, .slice a3 ks3.len c3] 32)
          have o4 := o4 (.cells #[.int .i64 k3, .string ⟨t3.toArray⟩, .int .i64 n3, .int .i64 p3, .slice a3 ks3.len c3] 32)
          rw [hV5] at L4 p4 o4
          obtain ⟨V6, hV6⟩ : ∃ V6, V5.setCell ⟨X, 4, none⟩ (.slice (some ⟨w9.heap.size, 0, none⟩) 1 1) = V6 := ⟨_, rfl⟩
          rw [hV6] at L4
          obtain ⟨x0, x1, x2, x3, x4⟩ := L4.box.five
          obtain ⟨q0, q1, q2, q3, q4⟩ := L4.res.five
          obtain ⟨m0, m1, m2, m3, m4⟩ := L4.res.frozen5
          replace x4 : V6.cell? ⟨X, 4, none⟩ = some (.slice (some ⟨w9.heap.size, 0, none⟩) 1 1) := x4
          clear hX2 hTN hT9 D2 D3
          go_wp2_with fail
          obtain ⟨y0, y1, y2, y3, y4⟩ := (L4.res.five_put (.int .i64 10) (.string ⟨tt.toArray⟩) (.int .i64 0) (.int .i64 tp) (.slice (some ⟨w9.heap.size, 0, none⟩) 1 1)).five
          refine bodyPost_ret (v := .agg #[.int .i64 10, .string ⟨tt.toArray⟩, .int .i64 0, .int .i64 tp, .slice (some ⟨w9.heap.size, 0, none⟩) 1 1]) (by simp [results, Tryz.results109, go_sem, y0, y1, y2, y3, y4]) rfl ?_
          rw [hst]
          exact L4.lr.tell'
    | @tab _ g1 s3 hf' hc h1 =>
      have hk3 : ¬ tk = 3 := fun e => by have := cls_of_kind ⟨tk, tt, tv, tp⟩ 3 e (by decide); omega
      have hk3' : (tk == 3) = false := by simpa using hk3
      have hk4 : ¬ tk = 4 := fun e => by have := cls_of_kind ⟨tk, tt, tv, tp⟩ 4 e (by decide); omega
      have hk4' : (tk == 4) = false := by simpa using hk4
      have K27 := fun W h => take_n b m T s 27 (by decide) (by decide) (by rw [hc]; decide) W h
      rw [show wds 27 = [110, 105, 108] from rfl] at K27
      have K28 := fun W h => take_n b m T s 28 (by decide) (by decide) (by rw [hc]; decide) W h
      rw [show wds 28 = [116, 114, 117, 101] from rfl] at K28
      have K29 := fun W h => take_n b m T s 29 (by decide) (by decide) (by rw [hc]; decide) W h
      rw [show wds 29 = [102, 97, 108, 115, 101] from rfl] at K29
      have K24 := fun W h => see_n b m T s 24 (by decide) (by decide) W h
      rw [show wds 24 = [110, 111, 116] from rfl, decide_eq_false (by rw [hc]; decide)] at K24
      have K25 := fun W h => see_n b m T s 25 (by decide) (by decide) W h
      rw [show wds 25 = [35] from rfl, decide_eq_false (by rw [hc]; decide)] at K25
      have K26 := fun W h => see_n b m T s 26 (by decide) (by decide) W h
      rw [show wds 26 = [45] from rfl, decide_eq_false (by rw [hc]; decide)] at K26
      have KY := fun W h => take_y b m T s 22 (by decide) (by decide) hc W h
      rw [show wds 22 = [123] from rfl] at KY
      obtain ⟨et, lt1⟩ := Sx.tl_e hes (by rw [hc]; decide)
      have HT : Hid (TabL (CR T) .nil s.tl g1 s3) := h1
      have CX := fun W h => need_n b m T s3 23 (by decide) (by decide) W h
      rw [show wds 23 = [125] from rfl] at CX
      clear h1
      go_wp2_with fail
      refine (K27 _ LL.tk.rs).mono ?_; rintro e' w27 ⟨rfl, hT27⟩
      have BY := BY.ky hT27.ky (by omega)
      have LL := LL.took hT27
      obtain ⟨e0, e1, e2, e3⟩ := BY.four
      clear K27 hT27
      go_wp2_with fail
      refine (K28 _ LL.tk.rs).mono ?_; rintro e' w28 ⟨rfl, hT28⟩
      have BY := BY.ky hT28.ky (by omega)
      have LL := LL.took hT28
      obtain ⟨e0, e1, e2, e3⟩ := BY.four
      clear K28 hT28
      go_wp2_with fail
      refine (K29 _ LL.tk.rs).mono ?_; rintro e' w29 ⟨rfl, hT29⟩
      have BY := BY.ky hT29.ky (by omega)
      have LL := LL.took hT29
      obtain ⟨e0, e1, e2, e3⟩ := BY.four
      clear K29 hT29
      go_wp2_with fail
      refine (K24 _ LL.tk.rs).mono ?_; rintro e' w24 ⟨rfl, hb24⟩
      have BY := BY.below hb24
      have LL := LL.below hb24
      obtain ⟨e0, e1, e2, e3⟩ := BY.four
      clear K24 hb24
      go_wp2_with fail
      refine (K25 _ LL.tk.rs).mono ?_; rintro e' w25 ⟨rfl, hb25⟩
      have BY := BY.below hb25
      have LL := LL.below hb25
      obtain ⟨e0, e1, e2, e3⟩ := BY.four
      clear K25 hb25
      go_wp2_with fail
      refine (K26 _ LL.tk.rs).mono ?_; rintro e' w26 ⟨rfl, hb26⟩
      have BY := BY.below hb26
      have LL := LL.below hb26
      obtain ⟨e0, e1, e2, e3⟩ := BY.four
      clear K26 hb26
      go_wp2_with fail
      refine (KY _ LL.tk.rs).mono ?_; rintro e' w9 ⟨rfl, hT9⟩
      have L9 := LL.took hT9
      obtain ⟨x0, x1, x2, x3, x4⟩ := L9.box.five
      obtain ⟨z0, z1, z2, z3, z4⟩ := L9.box.frozen5
      have D4 : Lv b m T s.tl W X #[.int .i64 12, .string ⟨#[]⟩, .int .i64 0, .int .i64 tp, .slice none 0 0] _ := L9.set 0 (.int .i64 12)
      have D4 := Lv.lk (t := []) D4
      clear KY hT9 L9 LL BY
      go_wp2_with fail
      go_loopg [5] 20010 (fun gf v5 wx => ∃ (f' : F) (s' : Sx) (a' : Option Addr) (c' : Nat), Lk b m T s' W X 12 [] 0 tp a' c' f' wx ∧ (v5 = .bool true ∧ Hid (TabL (CR T) f' s' g1 s3) ∧ f'.len + s'.l.length ≤ 20010 ∧ s'.l.length + 1 < gf ∨ v5 = .bool false ∧ f' = g1 ∧ s' = s3 ∧ 0 < gf))
      case atStart => exact ⟨.nil, s.tl, none, 0, D4, .inl ⟨rfl, HT, by show 0 + _ ≤ _; omega, by omega⟩⟩
      case round =>
        clear D4 HT
        obtain ⟨f', s', a', c', hL, hor⟩ := hrel
        rcases hor with ⟨rfl, HN, hfw, hfu⟩ | ⟨rfl, rfl, rfl, hfu⟩
        · have hn := HN.out
          clear HN
          obtain ⟨he', hs'⟩ := RT.sm hL.tk.rs
          have f2 := hL.tk.rs.fl
          cases hn with
          | stop hs =>
            have C1 := see_n b m T s3 23 (by decide) (by decide) wr hL.tk.rs
            rw [show wds 23 = [125] from rfl] at C1
            by_cases h23 : s3.c = 23
            · rw [decide_eq_true h23] at C1
              go_wp2_with fail
              refine C1.mono ?_; rintro e' w3 ⟨rfl, hb3⟩
              have L3 := hL.below hb3
              clear C1 hb3 hL
              have CXX := CX _ L3.tk.rs
              go_wp2_with fail
              refine CXX.mono ?_; rintro e' w9 ⟨rfl, hT9⟩
              have L4 := L3.took hT9
              obtain ⟨x0, x1, x2, x3, x4⟩ := L4.box.five
              obtain ⟨q0, q1, q2, q3, q4⟩ := L4.res.five
              obtain ⟨m0, m1, m2, m3, m4⟩ := L4.res.frozen5
              go_wp2_with fail
              obtain ⟨y0, y1, y2, y3, y4⟩ := (L4.res.five_put (.int .i64 12) (.string ⟨#[]⟩) (.int .i64 0) (.int .i64 tp) (.slice a' g1.len c')).five
              refine bodyPost_ret (v := .agg #[.int .i64 12, .string ⟨#[]⟩, .int .i64 0, .int .i64 tp, .slice a' g1.len c']) (by simp [results, Tryz.results109, go_sem, y0, y1, y2, y3, y4]) rfl ?_
              rw [hst]
              exact L4.lr.tell'

            · rw [decide_eq_false h23] at C1
              have hf0 : ¬ s3.f < 0 := hs.elim (fun e => absurd e h23) (fun e => by omega)
              go_wp2_with fail
              refine C1.mono ?_; rintro e' w3 ⟨rfl, hb3⟩
              have L3 := hL.below hb3
              have f2 := L3.tk.rs.fl
              clear C1 hb3 hL
              have CXX := CX _ L3.tk.rs
              go_wp2_with fail
              refine CXX.mono ?_; rintro e' w9 ⟨rfl, hT9⟩
              have L4 := L3.took hT9
              obtain ⟨x0, x1, x2, x3, x4⟩ := L4.box.five
              obtain ⟨q0, q1, q2, q3, q4⟩ := L4.res.five
              obtain ⟨m0, m1, m2, m3, m4⟩ := L4.res.frozen5
              go_wp2_with fail
              obtain ⟨y0, y1, y2, y3, y4⟩ := (L4.res.five_put (.int .i64 12) (.string ⟨#[]⟩) (.int .i64 0) (.int .i64 tp) (.slice a' g1.len c')).five
              refine bodyPost_ret (v := .agg #[.int .i64 12, .string ⟨#[]⟩, .int .i64 0, .int .i64 tp, .slice a' g1.len c']) (by simp [results, Tryz.results109, go_sem, y0, y1, y2, y3, y4]) rfl ?_
              rw [hst]
              exact L4.lr.tell'

          | @more _ _ f1 s1 _ _ hf0 h23 h1 h2 h3 =>
            have C1 := see_n b m T s' 23 (by decide) (by decide) wr hL.tk.rs
            rw [show wds 23 = [125] from rfl, decide_eq_false h23] at C1
            have CF : ∀ W, RT b m T s' W → Calls Tryz.prog 132 #[.pointer (some ⟨b, 0, none⟩)] W (RN b m T W s1 f1) := fun W h => h1.cl b m W h
            have l1 := h1.pz.len he'
            have e1 := h1.pz.ends he'
            obtain ⟨et1, lt2⟩ := Sx.tl_e e1 (by omega)
            have HN : Hid (TabL (CR T) (f'.app f1) s1.tl g1 s3) := h3
            clear h1 h3
            go_wp2_with fail
            refine C1.mono ?_; rintro e' w3 ⟨rfl, hb3⟩
            have L3 := hL.below hb3
            have f2 := L3.tk.rs.fl
            clear C1 hb3 hL
            obtain ⟨b0, b1, b2, b3, b4⟩ := L3.box.five
            go_wp2_with fail
            have D := L3.drew
            go_region_law (first | (refine step_goE (by rfl) 132 _ _ (by rfl) _ (by simp [Act.eval, Act.put]) enters132 (CF _ D.tk.rs) ?_; rintro e' wb ⟨k3, t3, n3, p3, a3, c3, ks3, rfl, rfl, hTN, hTk⟩; refine ⟨_, rfl, ?_⟩; obtain ⟨-, -, -, -, q4⟩ := (D.took hTk).box.five; obtain ⟨-, -, -, -, q5⟩ := (D.took hTk).box.fiveA) | (refine step_lk1 (by rfl) _ _ (by rfl) D hTk hTN (by omega) (by rfl) (by rfl) ?_; intro gg cc wc wF hwF L8 B8; obtain ⟨-, -, -, -, r4⟩ := B8.five; obtain ⟨-, -, -, -, g4⟩ := B8.frozen5))
            all_goals
              have C15 := fun W h => take_c b m T s1 15 (by decide) (by decide) W h
              rw [show wds 15 = [44] from rfl] at C15
              by_cases h15 : s1.c = 15
              · rw [decide_eq_true h15, if_pos h15] at C15
                go_wp2_with fail
                refine (C15 _ L8.tk.rs).mono ?_; rintro e' w9 ⟨rfl, hT9⟩
                have L9 := L8.took hT9
                go_wp2_with fail
                go_roundg (s1.tl.l.length + 2)
                case measure => omega
                case rel => exact ⟨_, _, _, _, L9, .inl ⟨rfl, HN, by rw [F.len_app]; show _ + 1 + _ ≤ _; omega, by omega⟩⟩
              · have h1' : s1.c = 1 := by omega
                rw [decide_eq_false h15, if_neg h15] at C15
                have C1' := fun W h => take_y b m T s1 1 (by decide) (by decide) h1' W h
                rw [show wds 1 = [59] from rfl] at C1'
                go_wp2_with fail
                refine (C15 _ L8.tk.rs).mono ?_; rintro e' w9 ⟨rfl, hT9⟩
                have L9 := L8.took hT9
                go_wp2_with fail
                refine (C1' _ L9.tk.rs).mono ?_; rintro e' w10 ⟨rfl, hT10⟩
                have L10 := L9.took hT10
                go_wp2_with fail
                go_roundg (s1.tl.l.length + 2)
                case measure => omega
                case rel => exact ⟨_, _, _, _, L10, .inl ⟨rfl, HN, by rw [F.len_app]; show _ + 1 + _ ≤ _; omega, by omega⟩⟩
          | @last _ _ f1 _ hf0 h23 h1 h15 h01 =>
            have C1 := see_n b m T s' 23 (by decide) (by decide) wr hL.tk.rs
            rw [show wds 23 = [125] from rfl, decide_eq_false h23] at C1
            have CF : ∀ W, RT b m T s' W → Calls Tryz.prog 132 #[.pointer (some ⟨b, 0, none⟩)] W (RN b m T W s3 f1) := fun W h => h1.cl b m W h
            have C15 := fun W h => take_n b m T s3 15 (by decide) (by decide) h15 W h
            rw [show wds 15 = [44] from rfl] at C15
            have C1' := fun W h => take_n b m T s3 1 (by decide) (by decide) h01 W h
            rw [show wds 1 = [59] from rfl] at C1'
            clear h1
            go_wp2_with fail
            refine C1.mono ?_; rintro e' w3 ⟨rfl, hb3⟩
            have L3 := hL.below hb3
            have f2 := L3.tk.rs.fl
            clear C1 hb3 hL
            obtain ⟨b0, b1, b2, b3, b4⟩ := L3.box.five
            go_wp2_with fail
            have D := L3.drew
            go_region_law (first | (refine step_goE (by rfl) 132 _ _ (by rfl) _ (by simp [Act.eval, Act.put]) enters132 (CF _ D.tk.rs) ?_; rintro e' wb ⟨k3, t3, n3, p3, a3, c3, ks3, rfl, rfl, hTN, hTk⟩; refine ⟨_, rfl, ?_⟩; obtain ⟨-, -, -, -, q4⟩ := (D.took hTk).box.five; obtain ⟨-, -, -, -, q5⟩ := (D.took hTk).box.fiveA) | (refine step_lk1 (by rfl) _ _ (by rfl) D hTk hTN (by omega) (by rfl) (by rfl) ?_; intro gg cc wc wF hwF L8 B8; obtain ⟨-, -, -, -, r4⟩ := B8.five; obtain ⟨-, -, -, -, g4⟩ := B8.frozen5))
            all_goals
              go_wp2_with fail
              refine (C15 _ L8.tk.rs).mono ?_; rintro e' w9 ⟨rfl, hT9⟩
              have L9 := L8.took hT9
              go_wp2_with fail
              refine (C1' _ L9.tk.rs).mono ?_; rintro e' w10 ⟨rfl, hT10⟩
              have L10 := L9.took hT10
              go_wp2_with fail
              go_roundg 1
              case measure => omega
              case rel => exact ⟨_, _, _, _, L10, .inr ⟨rfl, rfl, rfl, by omega⟩⟩
        · skip
          have CXX := CX _ hL.tk.rs
          go_wp2_with fail
          refine CXX.mono ?_; rintro e' w9 ⟨rfl, hT9⟩
          have L4 := hL.took hT9
          obtain ⟨x0, x1, x2, x3, x4⟩ := L4.box.five
          obtain ⟨q0, q1, q2, q3, q4⟩ := L4.res.five
          obtain ⟨m0, m1, m2, m3, m4⟩ := L4.res.frozen5
          go_wp2_with fail
          obtain ⟨y0, y1, y2, y3, y4⟩ := (L4.res.five_put (.int .i64 12) (.string ⟨#[]⟩) (.int .i64 0) (.int .i64 tp) (.slice a' f'.len c')).five
          refine bodyPost_ret (v := .agg #[.int .i64 12, .string ⟨#[]⟩, .int .i64 0, .int .i64 tp, .slice a' f'.len c']) (by simp [results, Tryz.results109, go_sem, y0, y1, y2, y3, y4]) rfl ?_
          rw [hst]
          exact L4.lr.tell'
    | osf hf' hc h1 =>
      obtain ⟨n53, n54, n27, n28, n29, n24, n25, n26, n22⟩ := hc
      have hk3 : ¬ tk = 3 := fun e => by have := cls_of_kind ⟨tk, tt, tv, tp⟩ 3 e (by decide); omega
      have hk3' : (tk == 3) = false := by simpa using hk3
      have hk4 : ¬ tk = 4 := fun e => by have := cls_of_kind ⟨tk, tt, tv, tp⟩ 4 e (by decide); omega
      have hk4' : (tk == 4) = false := by simpa using hk4
      have CS : ∀ W, RT b m T s W → Calls Tryz.prog 111 #[.pointer (some ⟨b, 0, none⟩)] W (RN b m T W s2 g) := fun W h => h1.cl b m W h
      have K27 := fun W h => take_n b m T s 27 (by decide) (by decide) n27 W h
      rw [show wds 27 = [110, 105, 108] from rfl] at K27
      have K28 := fun W h => take_n b m T s 28 (by decide) (by decide) n28 W h
      rw [show wds 28 = [116, 114, 117, 101] from rfl] at K28
      have K29 := fun W h => take_n b m T s 29 (by decide) (by decide) n29 W h
      rw [show wds 29 = [102, 97, 108, 115, 101] from rfl] at K29
      have K22 := fun W h => take_n b m T s 22 (by decide) (by decide) n22 W h
      rw [show wds 22 = [123] from rfl] at K22
      have K24 := fun W h => see_n b m T s 24 (by decide) (by decide) W h
      rw [show wds 24 = [110, 111, 116] from rfl, decide_eq_false n24] at K24
      have K25 := fun W h => see_n b m T s 25 (by decide) (by decide) W h
      rw [show wds 25 = [35] from rfl, decide_eq_false n25] at K25
      have K26 := fun W h => see_n b m T s 26 (by decide) (by decide) W h
      rw [show wds 26 = [45] from rfl, decide_eq_false n26] at K26
      go_wp2_with fail
      refine (K27 _ LL.tk.rs).mono ?_; rintro e' w27 ⟨rfl, hT27⟩
      have BY := BY.ky hT27.ky (by omega)
      have LL := LL.took hT27
      obtain ⟨e0, e1, e2, e3⟩ := BY.four
      clear K27 hT27
      go_wp2_with fail
      refine (K28 _ LL.tk.rs).mono ?_; rintro e' w28 ⟨rfl, hT28⟩
      have BY := BY.ky hT28.ky (by omega)
      have LL := LL.took hT28
      obtain ⟨e0, e1, e2, e3⟩ := BY.four
      clear K28 hT28
      go_wp2_with fail
      refine (K29 _ LL.tk.rs).mono ?_; rintro e' w29 ⟨rfl, hT29⟩
      have BY := BY.ky hT29.ky (by omega)
      have LL := LL.took hT29
      obtain ⟨e0, e1, e2, e3⟩ := BY.four
      clear K29 hT29
      go_wp2_with fail
      refine (K24 _ LL.tk.rs).mono ?_; rintro e' w24 ⟨rfl, hb24⟩
      have BY := BY.below hb24
      have LL := LL.below hb24
      obtain ⟨e0, e1, e2, e3⟩ := BY.four
      clear K24 hb24
      go_wp2_with fail
      refine (K25 _ LL.tk.rs).mono ?_; rintro e' w25 ⟨rfl, hb25⟩
      have BY := BY.below hb25
      have LL := LL.below hb25
      obtain ⟨e0, e1, e2, e3⟩ := BY.four
      clear K25 hb25
      go_wp2_with fail
      refine (K26 _ LL.tk.rs).mono ?_; rintro e' w26 ⟨rfl, hb26⟩
      have BY := BY.below hb26
      have LL := LL.below hb26
      obtain ⟨e0, e1, e2, e3⟩ := BY.four
      clear K26 hb26
      go_wp2_with fail
      refine (K22 _ LL.tk.rs).mono ?_; rintro e' w22 ⟨rfl, hT22⟩
      have BY := BY.ky hT22.ky (by omega)
      have LL := LL.took hT22
      obtain ⟨e0, e1, e2, e3⟩ := BY.four
      clear K22 hT22
      go_wp2_with fail
      refine (CS _ LL.tk.rs).mono ?_; rintro e' w9 ⟨k3, t3, n3, p3, a3, c3, ks3, e3, rfl, hTN, hT9⟩
      have D4 := LL.took hT9
      obtain ⟨q0, q1, q2, q3, q4⟩ := D4.res.five
      obtain ⟨m0, m1, m2, m3, m4⟩ := D4.res.frozen5
      have hX9 := LL.res.lt
      go_wp2_with fail
      obtain ⟨y0, y1, y2, y3, y4⟩ := (D4.res.five_put (.int .i64 k3) (.string ⟨t3.toArray⟩) (.int .i64 n3) (.int .i64 p3) (.slice a3 ks3.len c3)).five
      refine bodyPost_ret (v := (.agg #[.int .i64 (k3), .string ⟨(t3).toArray⟩, .int .i64 (n3), .int .i64 (p3), .slice a3 ks3.len c3])) (by simp [results, Tryz.results109, go_sem, y0, y1, y2, y3, y4]) rfl ?_
      exact ⟨k3, t3, n3, p3, a3, c3, ks3, e3, rfl, (hTN.five (X := W.heap.size) (by omega) _ _ _ _ _).mono fun g hg _ => by omega, Tr.five D4.tk (Nat.le_refl _) hlt.2 _ _ _ _ _⟩
end Go.Proofs.YtlgkfhipobdcfaaGreatDoor

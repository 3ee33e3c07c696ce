import Derived.Test.YtlgkfhipobdcfaaGreatDoorCg13
namespace Go.Proofs.YtlgkfhipobdcfaaGreatDoor
open Go.RowKit
theorem F.nil_of_len {f : F} (h : f.len = 0) : f = .nil:=by
  cases f with
  | nil=>rfl
  | cons k t n p ks r=>simp [F.len] at h
theorem F.wf_take : ∀ (f : F) (i : Nat),f.wf = true → (f.take i).wf = true
  | .nil,i,_=>by cases i <;> rfl
  | .cons _ _ _ _ _ _,0,_=>rfl
  | .cons k t n p ks r,i + 1,h=>by
    simp only [F.take,F.wf,Bool.and_eq_true] at h ⊢
    exact ⟨h.1,r.wf_take i h.2⟩
theorem F.wf_drop : ∀ (f : F) (i : Nat),f.wf = true → (f.drop i).wf = true
  | f,0,h=>by cases f <;> exact h
  | .nil,i + 1,_=>rfl
  | .cons k t n p ks r,i + 1,h=>by
    simp only [F.wf,Bool.and_eq_true] at h
    exact r.wf_drop i h.2
theorem F.wf_get : ∀ (f : F) (i : Nat) (k : Int) (t : List UInt8) (n p : Int) (ks : F),f.wf = true → f.get? i = some (k,t,n,p,ks) → (one k t n p ks).wf = true
  | .nil,i,_,_,_,_,_,_,h=>by simp [F.get?] at h
  | .cons k t n p ks r,0,_,_,_,_,_,hw,h=>by
    simp only [F.get?,Option.some.injEq,Prod.mk.injEq] at h
    obtain ⟨rfl,rfl,rfl,rfl,rfl⟩:=h
    exact (F.wf_cons hw).1
  | .cons k t n p ks r,i + 1,k',t',n',p',ks',hw,h=>r.wf_get i k' t' n' p' ks' (F.wf_cons hw).2 h
def CFmt (fmt : Int → List UInt8) : Prop:=∀ (n : Int) (w : World),0 ≤ n → n < 100 → Calls Tryz.prog 112 #[.int .i64 n] w fun e w'=>e = .returned (.string ⟨(fmt n).toArray⟩) ∧ Below w.heap.size w w'
def CQuo (quo : List UInt8 → List UInt8) : Prop:=∀ (t : List UInt8) (w : World),t.length ≤ 20000 → Calls Tryz.prog 113 #[.string ⟨t.toArray⟩] w fun e w'=>e = .returned (.string ⟨(quo t).toArray⟩) ∧ Below w.heap.size w w'
set_option maxRecDepth 20000 in
set_option maxHeartbeats 8000000 in
theorem expr_t {N : Nat} (hN : N ≤ 900000) (fmt : Int → List UInt8) (quo : List UInt8 → List UInt8) (hF : CFmt fmt) (hQ : CQuo quo) (tk : Int → List UInt8 → Int → F → Tks) (CE : CT 79 N tk) : CT 79 (N + 1) (exT tk fmt quo):=by
  intro b P L W k t n p a c ks h hr hs hw hcc hL
  obtain ⟨har,ht,hwk⟩:=F.wf_one hw
  have hlen:=ks.len_siz
  have B:=h.tq.box #[.int .i64 k,.string ⟨t.toArray⟩,.int .i64 n,.int .i64 p,.slice a ks.len c]
  have HR : Hid (Rv W (fun g=>g < b) a ks):=hr
  have HA : Hid (∀ i,i < ks.len → ∃ g o,a = some ⟨g,o,none⟩):=fun i hi=>by
    obtain ⟨x,hx⟩:=ks.get_some i hi
    obtain ⟨g,o,_,_,e,_⟩:=Rv.nth ks i hr (k:=x.1) (t:=x.2.1) (n:=x.2.2.1) (p:=x.2.2.2.1) (ks:=x.2.2.2.2) hx
    exact ⟨g,o,e⟩
  obtain ⟨X,hX⟩ : ∃ X,W.heap.size = X:=⟨_,rfl⟩
  obtain ⟨W1,hW1⟩ : ∃ W1,W.alloc (.cells #[.int .i64 (k),.string ⟨(t).toArray⟩,.int .i64 (n),.int .i64 (p),.slice a ks.len c] 24) = W1:=⟨_,rfl⟩
  rw [hX,hW1] at B
  clear h hr hw
  by_cases h1 : k = 1
  · subst h1
    unfold exT at hL
    skip
    try simp at hL
    obtain ⟨p0,p1,p2,p3,p4⟩:=B.box.five
    go_enter Tryz.func79,Tryz.ntmps79
    have CA1:=B.add1 [110,105,108] (by first | omega | (simp;omega) | (simp [wiT];omega))
    clear B
    go_wp2_with fail
    refine CA1.mono ?_;rintro e w1 ⟨rfl,D1,-⟩
    obtain ⟨p0,p1,p2,p3,p4⟩:=D1.box.five
    clear CA1
    have HD : Hid (Tq b P (L ++ [[110,105,108]]) W w1):=D1.tq
    clear D1
    go_wp2
    go_end0
    have e : L ++ exT tk fmt quo 1 t n ks = (L ++ [[110,105,108]]):=by simp [exT]
    rw [e]
    exact ⟨rfl,HD.out.te,HD.out.ky⟩
  by_cases h2 : k = 2
  · subst h2
    unfold exT at hL
    skip
    try simp at hL
    obtain ⟨p0,p1,p2,p3,p4⟩:=B.box.five
    go_enter Tryz.func79,Tryz.ntmps79
    have CA1:=B.add1 [116,114,117,101] (by first | omega | (simp;omega) | (simp [wiT];omega))
    clear B
    go_wp2_with fail
    refine CA1.mono ?_;rintro e w1 ⟨rfl,D1,-⟩
    obtain ⟨p0,p1,p2,p3,p4⟩:=D1.box.five
    clear CA1
    have HD : Hid (Tq b P (L ++ [[116,114,117,101]]) W w1):=D1.tq
    clear D1
    go_wp2
    go_end0
    have e : L ++ exT tk fmt quo 2 t n ks = (L ++ [[116,114,117,101]]):=by simp [exT]
    rw [e]
    exact ⟨rfl,HD.out.te,HD.out.ky⟩
  by_cases h3 : k = 3
  · subst h3
    unfold exT at hL
    skip
    try simp at hL
    obtain ⟨p0,p1,p2,p3,p4⟩:=B.box.five
    go_enter Tryz.func79,Tryz.ntmps79
    have CA1:=B.add1 [102,97,108,115,101] (by first | omega | (simp;omega) | (simp [wiT];omega))
    clear B
    go_wp2_with fail
    refine CA1.mono ?_;rintro e w1 ⟨rfl,D1,-⟩
    obtain ⟨p0,p1,p2,p3,p4⟩:=D1.box.five
    clear CA1
    have HD : Hid (Tq b P (L ++ [[102,97,108,115,101]]) W w1):=D1.tq
    clear D1
    go_wp2
    go_end0
    have e : L ++ exT tk fmt quo 3 t n ks = (L ++ [[102,97,108,115,101]]):=by simp [exT]
    rw [e]
    exact ⟨rfl,HD.out.te,HD.out.ky⟩
  by_cases h4 : k = 4
  · subst h4
    have hn4 : 0 ≤ n ∧ n < 100:=by simpa [arW] using har
    unfold exT at hL
    skip
    try simp at hL
    obtain ⟨p0,p1,p2,p3,p4⟩:=B.box.five
    go_enter Tryz.func79,Tryz.ntmps79
    have C1:=hF n W1 hn4.1 hn4.2
    have HD1 : Hid _:=B
    clear B
    go_wp2_with fail
    refine C1.mono ?_;rintro e w1 ⟨rfl,hb1⟩
    have D1:=HD1.out.below hb1
    obtain ⟨p0,p1,p2,p3,p4⟩:=D1.box.five
    clear C1 HD1 hb1
    have CA2:=D1.add1 (fmt n) (by first | omega | (simp;omega) | (simp [wiT];omega))
    clear D1
    go_wp2_with fail
    refine CA2.mono ?_;rintro e w2 ⟨rfl,D2,-⟩
    obtain ⟨p0,p1,p2,p3,p4⟩:=D2.box.five
    clear CA2
    have HD : Hid (Tq b P (L ++ [(fmt n)]) W w2):=D2.tq
    clear D2
    go_wp2
    go_end0
    have e : L ++ exT tk fmt quo 4 t n ks = (L ++ [(fmt n)]):=by simp [exT]
    rw [e]
    exact ⟨rfl,HD.out.te,HD.out.ky⟩
  by_cases h5 : k = 5
  · subst h5
    unfold exT at hL
    skip
    try simp at hL
    obtain ⟨p0,p1,p2,p3,p4⟩:=B.box.five
    go_enter Tryz.func79,Tryz.ntmps79
    have C1:=hQ t W1 ht
    have HD1 : Hid _:=B
    clear B
    go_wp2_with fail
    refine C1.mono ?_;rintro e w1 ⟨rfl,hb1⟩
    have D1:=HD1.out.below hb1
    obtain ⟨p0,p1,p2,p3,p4⟩:=D1.box.five
    clear C1 HD1 hb1
    have CA2:=D1.add1 (quo t) (by first | omega | (simp;omega) | (simp [wiT];omega))
    clear D1
    go_wp2_with fail
    refine CA2.mono ?_;rintro e w2 ⟨rfl,D2,-⟩
    obtain ⟨p0,p1,p2,p3,p4⟩:=D2.box.five
    clear CA2
    have HD : Hid (Tq b P (L ++ [(quo t)]) W w2):=D2.tq
    clear D2
    go_wp2
    go_end0
    have e : L ++ exT tk fmt quo 5 t n ks = (L ++ [(quo t)]):=by simp [exT]
    rw [e]
    exact ⟨rfl,HD.out.te,HD.out.ky⟩
  by_cases h6 : k = 6
  · subst h6
    unfold exT at hL
    skip
    try simp at hL
    obtain ⟨p0,p1,p2,p3,p4⟩:=B.box.five
    go_enter Tryz.func79,Tryz.ntmps79
    have CA1:=B.add1 t (by first | omega | (simp;omega) | (simp [wiT];omega))
    clear B
    go_wp2_with fail
    refine CA1.mono ?_;rintro e w1 ⟨rfl,D1,-⟩
    obtain ⟨p0,p1,p2,p3,p4⟩:=D1.box.five
    clear CA1
    have HD : Hid (Tq b P (L ++ [t]) W w1):=D1.tq
    clear D1
    go_wp2
    go_end0
    have e : L ++ exT tk fmt quo 6 t n ks = (L ++ [t]):=by simp [exT]
    rw [e]
    exact ⟨rfl,HD.out.te,HD.out.ky⟩
  by_cases h7 : k = 7
  · subst h7
    have hl : 1 ≤ ks.len:=by simpa [arW] using har
    obtain ⟨gg,oo,rfl⟩:=HA.out 0 (by omega)
    have hl0 : (0 : Int) < (ks.len : Int):=by omega
    obtain ⟨⟨kk0,tt0,nn0,pp0,ks0⟩,hget0⟩:=ks.get_some 0 (by omega)
    have hnd0 : ndT tk ks 0 = tk kk0 tt0 nn0 ks0:=by unfold ndT;rw [hget0];rfl
    by_cases hc1 : c = 1
    · subst hc1
      unfold exT at hL
      simp only [Int.reduceEq,if_false,if_true] at hL
      rw [hnd0] at hL
      unfold wiT at hL
      try simp at hL
      obtain ⟨p0,p1,p2,p3,p4⟩:=B.box.five
      go_enter Tryz.func79,Tryz.ntmps79
      obtain ⟨g,o,a1,c1,e1,hg1,k0,k1,k2,k3,k4,hK1,hc1⟩:=Rv.nth ks 0 (B.tq.rv HR.out) hget0
      injection e1 with e1
      injection e1 with e1 f1
      subst e1 f1
      simp only [Nat.zero_mul,Nat.add_zero] at k0 k1 k2 k3 k4
      have C1:=CE b (fun g=>P g ∧ g ≠ X) L W1 kk0 tt0 nn0 pp0 a1 c1 ks0 B.te hK1 (by have:=F.get_siz ks 0 _ _ _ _ _ hget0;omega) (F.wf_get ks 0 _ _ _ _ _ hwk hget0) hc1 (by first | omega | (simp;omega) | (simp [wiT];omega))
      have HD1 : Hid _:=B
      clear B hK1 hg1
      go_wp2_with fail
      refine C1.mono ?_;rintro e w1 hq1
      have D1:=HD1.out.step hq1
      obtain ⟨rfl,-⟩:=hq1
      obtain ⟨p0,p1,p2,p3,p4⟩:=D1.box.five
      clear C1 HD1 k0 k1 k2 k3 k4
      have hnil : ks.drop 1 = .nil:=F.nil_of_len (by rw [F.drop_len];omega)
      have C2:=within_t (by omega) tk CE b (fun g=>P g ∧ g ≠ X) (L ++ tk kk0 tt0 nn0 ks0) w1 (some ⟨gg,oo,none⟩) 0 (ks.drop 1) [91] [93] D1.te (by rw [hnil];exact Rv.nil _) (by have:=ks.drop_siz 1;omega) (F.wf_drop ks 1 hwk) (by unfold wiT;simp;omega)
      have hz2 : (ks.drop 1).len = 0:=by rw [hnil];rfl
      rw [hz2] at C2
      have HD2 : Hid _:=D1
      clear D1
      go_wp2_with fail
      refine C2.mono ?_;rintro e w2 hq2
      have D2:=HD2.out.step hq2
      obtain ⟨rfl,-⟩:=hq2
      obtain ⟨p0,p1,p2,p3,p4⟩:=D2.box.five
      clear C2 HD2
      have HD : Hid (Tq b P ((L ++ tk kk0 tt0 nn0 ks0) ++ wiT tk [91] (ks.drop 1) [93]) W w2):=D2.tq
      clear D2
      go_wp2
      go_end0
      have e : L ++ exT tk fmt quo 7 t n ks = ((L ++ tk kk0 tt0 nn0 ks0) ++ wiT tk [91] (ks.drop 1) [93]):=by simp [exT,hnd0]
      rw [e]
      exact ⟨rfl,HD.out.te,HD.out.ky⟩
    · skip
      unfold exT at hL
      simp only [Int.reduceEq,if_false,if_true] at hL
      rw [hnd0] at hL
      unfold wiT at hL
      try simp at hL
      obtain ⟨p0,p1,p2,p3,p4⟩:=B.box.five
      go_enter Tryz.func79,Tryz.ntmps79
      obtain ⟨g,o,a1,c1,e1,hg1,k0,k1,k2,k3,k4,hK1,hc1⟩:=Rv.nth ks 0 (B.tq.rv HR.out) hget0
      injection e1 with e1
      injection e1 with e1 f1
      subst e1 f1
      simp only [Nat.zero_mul,Nat.add_zero] at k0 k1 k2 k3 k4
      have C1:=CE b (fun g=>P g ∧ g ≠ X) L W1 kk0 tt0 nn0 pp0 a1 c1 ks0 B.te hK1 (by have:=F.get_siz ks 0 _ _ _ _ _ hget0;omega) (F.wf_get ks 0 _ _ _ _ _ hwk hget0) hc1 (by first | omega | (simp;omega) | (simp [wiT];omega))
      have HD1 : Hid _:=B
      clear B hK1 hg1
      go_wp2_with fail
      refine C1.mono ?_;rintro e w1 hq1
      have D1:=HD1.out.step hq1
      obtain ⟨rfl,-⟩:=hq1
      obtain ⟨p0,p1,p2,p3,p4⟩:=D1.box.five
      clear C1 HD1 k0 k1 k2 k3 k4
      have C2:=within_t (by omega) tk CE b (fun g=>P g ∧ g ≠ X) (L ++ tk kk0 tt0 nn0 ks0) w1 (some ⟨gg,oo + 1 * 5,none⟩) (c - 1) (ks.drop 1) [91] [93] D1.te (Rv.drop ks 1 (D1.tq.rv HR.out)) (by have:=ks.drop_siz 1;omega) (F.wf_drop ks 1 hwk) (by unfold wiT;simp;omega)
      rw [F.drop_len] at C2
      simp only [Nat.one_mul] at C2
      have HD2 : Hid _:=D1
      clear D1
      go_wp2_with fail
      refine C2.mono ?_;rintro e w2 hq2
      have D2:=HD2.out.step hq2
      obtain ⟨rfl,-⟩:=hq2
      obtain ⟨p0,p1,p2,p3,p4⟩:=D2.box.five
      clear C2 HD2
      have HD : Hid (Tq b P ((L ++ tk kk0 tt0 nn0 ks0) ++ wiT tk [91] (ks.drop 1) [93]) W w2):=D2.tq
      clear D2
      go_wp2
      go_end0
      have e : L ++ exT tk fmt quo 7 t n ks = ((L ++ tk kk0 tt0 nn0 ks0) ++ wiT tk [91] (ks.drop 1) [93]):=by simp [exT,hnd0]
      rw [e]
      exact ⟨rfl,HD.out.te,HD.out.ky⟩
  by_cases h8 : k = 8
  · subst h8
    have hl : 1 ≤ ks.len:=by simpa [arW] using har
    obtain ⟨gg,oo,rfl⟩:=HA.out 0 (by omega)
    have hl0 : (0 : Int) < (ks.len : Int):=by omega
    obtain ⟨⟨kk0,tt0,nn0,pp0,ks0⟩,hget0⟩:=ks.get_some 0 (by omega)
    have hnd0 : ndT tk ks 0 = tk kk0 tt0 nn0 ks0:=by unfold ndT;rw [hget0];rfl
    by_cases hc1 : c = 1
    · subst hc1
      unfold exT at hL
      simp only [Int.reduceEq,if_false,if_true] at hL
      rw [hnd0] at hL
      unfold wiT at hL
      try simp at hL
      obtain ⟨p0,p1,p2,p3,p4⟩:=B.box.five
      go_enter Tryz.func79,Tryz.ntmps79
      obtain ⟨g,o,a1,c1,e1,hg1,k0,k1,k2,k3,k4,hK1,hc1⟩:=Rv.nth ks 0 (B.tq.rv HR.out) hget0
      injection e1 with e1
      injection e1 with e1 f1
      subst e1 f1
      simp only [Nat.zero_mul,Nat.add_zero] at k0 k1 k2 k3 k4
      have C1:=CE b (fun g=>P g ∧ g ≠ X) L W1 kk0 tt0 nn0 pp0 a1 c1 ks0 B.te hK1 (by have:=F.get_siz ks 0 _ _ _ _ _ hget0;omega) (F.wf_get ks 0 _ _ _ _ _ hwk hget0) hc1 (by first | omega | (simp;omega) | (simp [wiT];omega))
      have HD1 : Hid _:=B
      clear B hK1 hg1
      go_wp2_with fail
      refine C1.mono ?_;rintro e w1 hq1
      have D1:=HD1.out.step hq1
      obtain ⟨rfl,-⟩:=hq1
      obtain ⟨p0,p1,p2,p3,p4⟩:=D1.box.five
      clear C1 HD1 k0 k1 k2 k3 k4
      have hnil : ks.drop 1 = .nil:=F.nil_of_len (by rw [F.drop_len];omega)
      have C2:=within_t (by omega) tk CE b (fun g=>P g ∧ g ≠ X) (L ++ tk kk0 tt0 nn0 ks0) w1 (some ⟨gg,oo,none⟩) 0 (ks.drop 1) [40] [41] D1.te (by rw [hnil];exact Rv.nil _) (by have:=ks.drop_siz 1;omega) (F.wf_drop ks 1 hwk) (by unfold wiT;simp;omega)
      have hz2 : (ks.drop 1).len = 0:=by rw [hnil];rfl
      rw [hz2] at C2
      have HD2 : Hid _:=D1
      clear D1
      go_wp2_with fail
      refine C2.mono ?_;rintro e w2 hq2
      have D2:=HD2.out.step hq2
      obtain ⟨rfl,-⟩:=hq2
      obtain ⟨p0,p1,p2,p3,p4⟩:=D2.box.five
      clear C2 HD2
      have HD : Hid (Tq b P ((L ++ tk kk0 tt0 nn0 ks0) ++ wiT tk [40] (ks.drop 1) [41]) W w2):=D2.tq
      clear D2
      go_wp2
      go_end0
      have e : L ++ exT tk fmt quo 8 t n ks = ((L ++ tk kk0 tt0 nn0 ks0) ++ wiT tk [40] (ks.drop 1) [41]):=by simp [exT,hnd0]
      rw [e]
      exact ⟨rfl,HD.out.te,HD.out.ky⟩
    · skip
      unfold exT at hL
      simp only [Int.reduceEq,if_false,if_true] at hL
      rw [hnd0] at hL
      unfold wiT at hL
      try simp at hL
      obtain ⟨p0,p1,p2,p3,p4⟩:=B.box.five
      go_enter Tryz.func79,Tryz.ntmps79
      obtain ⟨g,o,a1,c1,e1,hg1,k0,k1,k2,k3,k4,hK1,hc1⟩:=Rv.nth ks 0 (B.tq.rv HR.out) hget0
      injection e1 with e1
      injection e1 with e1 f1
      subst e1 f1
      simp only [Nat.zero_mul,Nat.add_zero] at k0 k1 k2 k3 k4
      have C1:=CE b (fun g=>P g ∧ g ≠ X) L W1 kk0 tt0 nn0 pp0 a1 c1 ks0 B.te hK1 (by have:=F.get_siz ks 0 _ _ _ _ _ hget0;omega) (F.wf_get ks 0 _ _ _ _ _ hwk hget0) hc1 (by first | omega | (simp;omega) | (simp [wiT];omega))
      have HD1 : Hid _:=B
      clear B hK1 hg1
      go_wp2_with fail
      refine C1.mono ?_;rintro e w1 hq1
      have D1:=HD1.out.step hq1
      obtain ⟨rfl,-⟩:=hq1
      obtain ⟨p0,p1,p2,p3,p4⟩:=D1.box.five
      clear C1 HD1 k0 k1 k2 k3 k4
      have C2:=within_t (by omega) tk CE b (fun g=>P g ∧ g ≠ X) (L ++ tk kk0 tt0 nn0 ks0) w1 (some ⟨gg,oo + 1 * 5,none⟩) (c - 1) (ks.drop 1) [40] [41] D1.te (Rv.drop ks 1 (D1.tq.rv HR.out)) (by have:=ks.drop_siz 1;omega) (F.wf_drop ks 1 hwk) (by unfold wiT;simp;omega)
      rw [F.drop_len] at C2
      simp only [Nat.one_mul] at C2
      have HD2 : Hid _:=D1
      clear D1
      go_wp2_with fail
      refine C2.mono ?_;rintro e w2 hq2
      have D2:=HD2.out.step hq2
      obtain ⟨rfl,-⟩:=hq2
      obtain ⟨p0,p1,p2,p3,p4⟩:=D2.box.five
      clear C2 HD2
      have HD : Hid (Tq b P ((L ++ tk kk0 tt0 nn0 ks0) ++ wiT tk [40] (ks.drop 1) [41]) W w2):=D2.tq
      clear D2
      go_wp2
      go_end0
      have e : L ++ exT tk fmt quo 8 t n ks = ((L ++ tk kk0 tt0 nn0 ks0) ++ wiT tk [40] (ks.drop 1) [41]):=by simp [exT,hnd0]
      rw [e]
      exact ⟨rfl,HD.out.te,HD.out.ky⟩
  by_cases h9 : k = 9
  · subst h9
    unfold exT at hL
    simp only [Int.reduceEq,if_false,if_true] at hL
    unfold wiT at hL
    try simp at hL
    obtain ⟨p0,p1,p2,p3,p4⟩:=B.box.five
    go_enter Tryz.func79,Tryz.ntmps79
    have C1:=within_t (by omega) tk CE b (fun g=>P g ∧ g ≠ X) L W1 a c ks [40] [41] B.te (B.tq.rv HR.out) (by omega) hwk (by unfold wiT;simp;omega)
    have HD1 : Hid _:=B
    clear B
    go_wp2_with fail
    refine C1.mono ?_;rintro e w1 hq1
    have D1:=HD1.out.step hq1
    obtain ⟨rfl,-⟩:=hq1
    obtain ⟨p0,p1,p2,p3,p4⟩:=D1.box.five
    clear C1 HD1
    have HD : Hid (Tq b P (L ++ wiT tk [40] ks [41]) W w1):=D1.tq
    clear D1
    go_wp2
    go_end0
    have e : L ++ exT tk fmt quo 9 t n ks = (L ++ wiT tk [40] ks [41]):=by simp [exT]
    rw [e]
    exact ⟨rfl,HD.out.te,HD.out.ky⟩
  by_cases h10 : k = 10
  · subst h10
    have hl : 1 ≤ ks.len:=by simpa [arW] using har
    obtain ⟨gg,oo,rfl⟩:=HA.out 0 (by omega)
    have hl0 : (0 : Int) < (ks.len : Int):=by omega
    obtain ⟨⟨kk0,tt0,nn0,pp0,ks0⟩,hget0⟩:=ks.get_some 0 (by omega)
    have hnd0 : ndT tk ks 0 = tk kk0 tt0 nn0 ks0:=by unfold ndT;rw [hget0];rfl
    unfold exT at hL
    simp only [Int.reduceEq,if_false,if_true] at hL
    rw [hnd0] at hL
    try simp at hL
    obtain ⟨p0,p1,p2,p3,p4⟩:=B.box.five
    go_enter Tryz.func79,Tryz.ntmps79
    have CA1:=B.add1 t (by first | omega | (simp;omega) | (simp [wiT];omega))
    clear B
    go_wp2_with fail
    refine CA1.mono ?_;rintro e w1 ⟨rfl,D1,-⟩
    obtain ⟨p0,p1,p2,p3,p4⟩:=D1.box.five
    clear CA1
    obtain ⟨g,o,a2,c2,e2,hg2,k0,k1,k2,k3,k4,hK2,hc2⟩:=Rv.nth ks 0 (D1.tq.rv HR.out) hget0
    injection e2 with e2
    injection e2 with e2 f2
    subst e2 f2
    simp only [Nat.zero_mul,Nat.add_zero] at k0 k1 k2 k3 k4
    have C2:=CE b (fun g=>P g ∧ g ≠ X) (L ++ [t]) w1 kk0 tt0 nn0 pp0 a2 c2 ks0 D1.te hK2 (by have:=F.get_siz ks 0 _ _ _ _ _ hget0;omega) (F.wf_get ks 0 _ _ _ _ _ hwk hget0) hc2 (by first | omega | (simp;omega) | (simp [wiT];omega))
    have HD2 : Hid _:=D1
    clear D1 hK2 hg2
    go_wp2_with fail
    refine C2.mono ?_;rintro e w2 hq2
    have D2:=HD2.out.step hq2
    obtain ⟨rfl,-⟩:=hq2
    obtain ⟨p0,p1,p2,p3,p4⟩:=D2.box.five
    clear C2 HD2 k0 k1 k2 k3 k4
    have HD : Hid (Tq b P ((L ++ [t]) ++ tk kk0 tt0 nn0 ks0) W w2):=D2.tq
    clear D2
    go_wp2
    go_end0
    have e : L ++ exT tk fmt quo 10 t n ks = ((L ++ [t]) ++ tk kk0 tt0 nn0 ks0):=by simp [exT,hnd0]
    rw [e]
    exact ⟨rfl,HD.out.te,HD.out.ky⟩
  by_cases h11 : k = 11
  · subst h11
    have hl : 2 ≤ ks.len:=by simpa [arW] using har
    obtain ⟨gg,oo,rfl⟩:=HA.out 0 (by omega)
    have hl0 : (0 : Int) < (ks.len : Int):=by omega
    obtain ⟨⟨kk0,tt0,nn0,pp0,ks0⟩,hget0⟩:=ks.get_some 0 (by omega)
    have hnd0 : ndT tk ks 0 = tk kk0 tt0 nn0 ks0:=by unfold ndT;rw [hget0];rfl
    have hl1 : (1 : Int) < (ks.len : Int):=by omega
    obtain ⟨⟨kk1,tt1,nn1,pp1,ks1⟩,hget1⟩:=ks.get_some 1 (by omega)
    have hnd1 : ndT tk ks 1 = tk kk1 tt1 nn1 ks1:=by unfold ndT;rw [hget1];rfl
    unfold exT at hL
    simp only [Int.reduceEq,if_false,if_true] at hL
    rw [hnd0,hnd1] at hL
    try simp at hL
    obtain ⟨p0,p1,p2,p3,p4⟩:=B.box.five
    go_enter Tryz.func79,Tryz.ntmps79
    obtain ⟨g,o,a1,c1,e1,hg1,k0,k1,k2,k3,k4,hK1,hc1⟩:=Rv.nth ks 0 (B.tq.rv HR.out) hget0
    injection e1 with e1
    injection e1 with e1 f1
    subst e1 f1
    simp only [Nat.zero_mul,Nat.add_zero] at k0 k1 k2 k3 k4
    have C1:=CE b (fun g=>P g ∧ g ≠ X) L W1 kk0 tt0 nn0 pp0 a1 c1 ks0 B.te hK1 (by have:=F.get_siz ks 0 _ _ _ _ _ hget0;omega) (F.wf_get ks 0 _ _ _ _ _ hwk hget0) hc1 (by first | omega | (simp;omega) | (simp [wiT];omega))
    have HD1 : Hid _:=B
    clear B hK1 hg1
    go_wp2_with fail
    refine C1.mono ?_;rintro e w1 hq1
    have D1:=HD1.out.step hq1
    obtain ⟨rfl,-⟩:=hq1
    obtain ⟨p0,p1,p2,p3,p4⟩:=D1.box.five
    clear C1 HD1 k0 k1 k2 k3 k4
    have CA2:=D1.add1 t (by first | omega | (simp;omega) | (simp [wiT];omega))
    clear D1
    go_wp2_with fail
    refine CA2.mono ?_;rintro e w2 ⟨rfl,D2,-⟩
    obtain ⟨p0,p1,p2,p3,p4⟩:=D2.box.five
    clear CA2
    obtain ⟨g,o,a3,c3,e3,hg3,k0,k1,k2,k3,k4,hK3,hc3⟩:=Rv.nth ks 1 (D2.tq.rv HR.out) hget1
    injection e3 with e3
    injection e3 with e3 f3
    subst e3 f3
    simp only [Nat.one_mul] at k0 k1 k2 k3 k4
    have C3:=CE b (fun g=>P g ∧ g ≠ X) ((L ++ tk kk0 tt0 nn0 ks0) ++ [t]) w2 kk1 tt1 nn1 pp1 a3 c3 ks1 D2.te hK3 (by have:=F.get_siz ks 1 _ _ _ _ _ hget1;omega) (F.wf_get ks 1 _ _ _ _ _ hwk hget1) hc3 (by first | omega | (simp;omega) | (simp [wiT];omega))
    have HD3 : Hid _:=D2
    clear D2 hK3 hg3
    go_wp2_with fail
    refine C3.mono ?_;rintro e w3 hq3
    have D3:=HD3.out.step hq3
    obtain ⟨rfl,-⟩:=hq3
    obtain ⟨p0,p1,p2,p3,p4⟩:=D3.box.five
    clear C3 HD3 k0 k1 k2 k3 k4
    have HD : Hid (Tq b P (((L ++ tk kk0 tt0 nn0 ks0) ++ [t]) ++ tk kk1 tt1 nn1 ks1) W w3):=D3.tq
    clear D3
    go_wp2
    go_end0
    have e : L ++ exT tk fmt quo 11 t n ks = (((L ++ tk kk0 tt0 nn0 ks0) ++ [t]) ++ tk kk1 tt1 nn1 ks1):=by simp [exT,hnd0,hnd1]
    rw [e]
    exact ⟨rfl,HD.out.te,HD.out.ky⟩
  by_cases h12 : k = 12
  · subst h12
    unfold exT at hL
    simp only [Int.reduceEq,if_false,if_true] at hL
    unfold wiT at hL
    try simp at hL
    obtain ⟨p0,p1,p2,p3,p4⟩:=B.box.five
    go_enter Tryz.func79,Tryz.ntmps79
    have C1:=within_t (by omega) tk CE b (fun g=>P g ∧ g ≠ X) L W1 a c ks [123] [125] B.te (B.tq.rv HR.out) (by omega) hwk (by unfold wiT;simp;omega)
    have HD1 : Hid _:=B
    clear B
    go_wp2_with fail
    refine C1.mono ?_;rintro e w1 hq1
    have D1:=HD1.out.step hq1
    obtain ⟨rfl,-⟩:=hq1
    obtain ⟨p0,p1,p2,p3,p4⟩:=D1.box.five
    clear C1 HD1
    have HD : Hid (Tq b P (L ++ wiT tk [123] ks [125]) W w1):=D1.tq
    clear D1
    go_wp2
    go_end0
    have e : L ++ exT tk fmt quo 12 t n ks = (L ++ wiT tk [123] ks [125]):=by simp [exT]
    rw [e]
    exact ⟨rfl,HD.out.te,HD.out.ky⟩
  by_cases h13 : k = 13
  · subst h13
    have hl : 1 ≤ ks.len:=by simpa [arW] using har
    obtain ⟨gg,oo,rfl⟩:=HA.out 0 (by omega)
    have hl0 : (0 : Int) < (ks.len : Int):=by omega
    obtain ⟨⟨kk0,tt0,nn0,pp0,ks0⟩,hget0⟩:=ks.get_some 0 (by omega)
    have hnd0 : ndT tk ks 0 = tk kk0 tt0 nn0 ks0:=by unfold ndT;rw [hget0];rfl
    unfold exT at hL
    simp only [Int.reduceEq,if_false,if_true] at hL
    rw [hnd0] at hL
    try simp at hL
    obtain ⟨p0,p1,p2,p3,p4⟩:=B.box.five
    go_enter Tryz.func79,Tryz.ntmps79
    obtain ⟨g,o,a1,c1,e1,hg1,k0,k1,k2,k3,k4,hK1,hc1⟩:=Rv.nth ks 0 (B.tq.rv HR.out) hget0
    injection e1 with e1
    injection e1 with e1 f1
    subst e1 f1
    simp only [Nat.zero_mul,Nat.add_zero] at k0 k1 k2 k3 k4
    have C1:=CE b (fun g=>P g ∧ g ≠ X) L W1 kk0 tt0 nn0 pp0 a1 c1 ks0 B.te hK1 (by have:=F.get_siz ks 0 _ _ _ _ _ hget0;omega) (F.wf_get ks 0 _ _ _ _ _ hwk hget0) hc1 (by first | omega | (simp;omega) | (simp [wiT];omega))
    have HD1 : Hid _:=B
    clear B hK1 hg1
    go_wp2_with fail
    refine C1.mono ?_;rintro e w1 hq1
    have D1:=HD1.out.step hq1
    obtain ⟨rfl,-⟩:=hq1
    obtain ⟨p0,p1,p2,p3,p4⟩:=D1.box.five
    clear C1 HD1 k0 k1 k2 k3 k4
    have HD : Hid (Tq b P (L ++ tk kk0 tt0 nn0 ks0) W w1):=D1.tq
    clear D1
    go_wp2
    go_end0
    have e : L ++ exT tk fmt quo 13 t n ks = (L ++ tk kk0 tt0 nn0 ks0):=by simp [exT,hnd0]
    rw [e]
    exact ⟨rfl,HD.out.te,HD.out.ky⟩
  by_cases h14 : k = 14
  · subst h14
    have hl : 2 ≤ ks.len:=by simpa [arW] using har
    obtain ⟨gg,oo,rfl⟩:=HA.out 0 (by omega)
    have hl0 : (0 : Int) < (ks.len : Int):=by omega
    obtain ⟨⟨kk0,tt0,nn0,pp0,ks0⟩,hget0⟩:=ks.get_some 0 (by omega)
    have hnd0 : ndT tk ks 0 = tk kk0 tt0 nn0 ks0:=by unfold ndT;rw [hget0];rfl
    have hl1 : (1 : Int) < (ks.len : Int):=by omega
    obtain ⟨⟨kk1,tt1,nn1,pp1,ks1⟩,hget1⟩:=ks.get_some 1 (by omega)
    have hnd1 : ndT tk ks 1 = tk kk1 tt1 nn1 ks1:=by unfold ndT;rw [hget1];rfl
    unfold exT at hL
    simp only [Int.reduceEq,if_false,if_true] at hL
    rw [hnd1] at hL
    unfold wiT at hL
    try simp at hL
    obtain ⟨p0,p1,p2,p3,p4⟩:=B.box.five
    go_enter Tryz.func79,Tryz.ntmps79
    have C1:=within_t (by omega) tk CE b (fun g=>P g ∧ g ≠ X) L W1 (some ⟨gg,oo,none⟩) c (ks.take 1) [91] [93] B.te ((B.tq.rv HR.out).take 1) (by have:=ks.take_siz 1;omega) (F.wf_take ks 1 hwk) (by unfold wiT;simp;omega)
    rw [F.take_len ks 1 (by omega)] at C1
    have HD1 : Hid _:=B
    clear B
    go_wp2_with fail
    refine C1.mono ?_;rintro e w1 hq1
    have D1:=HD1.out.step hq1
    obtain ⟨rfl,-⟩:=hq1
    obtain ⟨p0,p1,p2,p3,p4⟩:=D1.box.five
    clear C1 HD1
    have CA2:=D1.add1 [61] (by first | omega | (simp;omega) | (simp [wiT];omega))
    clear D1
    go_wp2_with fail
    refine CA2.mono ?_;rintro e w2 ⟨rfl,D2,-⟩
    obtain ⟨p0,p1,p2,p3,p4⟩:=D2.box.five
    clear CA2
    obtain ⟨g,o,a3,c3,e3,hg3,k0,k1,k2,k3,k4,hK3,hc3⟩:=Rv.nth ks 1 (D2.tq.rv HR.out) hget1
    injection e3 with e3
    injection e3 with e3 f3
    subst e3 f3
    simp only [Nat.one_mul] at k0 k1 k2 k3 k4
    have C3:=CE b (fun g=>P g ∧ g ≠ X) ((L ++ wiT tk [91] (ks.take 1) [93]) ++ [[61]]) w2 kk1 tt1 nn1 pp1 a3 c3 ks1 D2.te hK3 (by have:=F.get_siz ks 1 _ _ _ _ _ hget1;omega) (F.wf_get ks 1 _ _ _ _ _ hwk hget1) hc3 (by first | omega | (simp;omega) | (simp [wiT];omega))
    have HD3 : Hid _:=D2
    clear D2 hK3 hg3
    go_wp2_with fail
    refine C3.mono ?_;rintro e w3 hq3
    have D3:=HD3.out.step hq3
    obtain ⟨rfl,-⟩:=hq3
    obtain ⟨p0,p1,p2,p3,p4⟩:=D3.box.five
    clear C3 HD3 k0 k1 k2 k3 k4
    have HD : Hid (Tq b P (((L ++ wiT tk [91] (ks.take 1) [93]) ++ [[61]]) ++ tk kk1 tt1 nn1 ks1) W w3):=D3.tq
    clear D3
    go_wp2
    go_end0
    have e : L ++ exT tk fmt quo 14 t n ks = (((L ++ wiT tk [91] (ks.take 1) [93]) ++ [[61]]) ++ tk kk1 tt1 nn1 ks1):=by simp [exT,hnd1]
    rw [e]
    exact ⟨rfl,HD.out.te,HD.out.ky⟩
  have HE : Hid (L ++ exT tk fmt quo k t n ks = L):=by
    have : L ++ exT tk fmt quo k t n ks = L:=by simp [exT,h1,h2,h3,h4,h5,h6,h7,h8,h9,h10,h11,h12,h13,h14]
    exact this
  have HD : Hid (Tq b P L W W1):=B.tq
  obtain ⟨p0,p1,p2,p3,p4⟩:=B.box.five
  clear B hL
  go_enter Tryz.func79,Tryz.ntmps79
  go_wp2
  go_end0
  rw [HE.out]
  exact ⟨rfl,HD.out.te,HD.out.ky⟩
end Go.Proofs.YtlgkfhipobdcfaaGreatDoor


namespace Go.Proofs.YtlgkfhipobdcfaaGreatDoor
open Go.RowKit
set_option maxRecDepth 20000 in
set_option maxHeartbeats 8000000 in
theorem names_t {N : Nat} (hN : N ≤ 900000) (tk : Int → List UInt8 → Int → F → Tks) (CE : CT 79 N tk) (b : Nat) (P : Nat → Prop) (L : Tks) (W : World) (k : Int) (t : List UInt8) (m : Nat) (p : Int) (a : Option Addr) (c : Nat) (ks : F) (h : Te b P L W) (hr : Rv W (fun g=>g < b) a ks) (hs : ks.siz ≤ N) (hwk : ks.wf = true) (hcc : ks.len ≤ c ∧ c ≤ maxLen) (hm : m ≤ ks.len) (hL : L.length + (namT tk (m : Int) ks).length ≤ 1000000) :
    Calls Tryz.prog 76 #[.pointer (some ⟨b,0,none⟩),(.agg #[.int .i64 (k),.string ⟨(t).toArray⟩,.int .i64 ((m : Nat)),.int .i64 (p),.slice a ks.len c])] W (TP b P W (L ++ namT tk (m : Int) ks)):=by
  have hlen:=ks.len_siz
  have B:=h.tq.box #[.int .i64 k,.string ⟨t.toArray⟩,.int .i64 (m : Nat),.int .i64 p,.slice a ks.len c]
  have HR : Hid (Rv W (fun g=>g < b) a ks):=hr
  have hcm : m ≤ c:=by omega
  have hcm' : (m : Int) ≤ (c : Int):=by omega
  have hm0 : ¬ (m : Int) < 0:=by omega
  obtain ⟨X,hX⟩ : ∃ X,W.heap.size = X:=⟨_,rfl⟩
  obtain ⟨W1,hW1⟩ : ∃ W1,W.alloc (.cells #[.int .i64 (k),.string ⟨(t).toArray⟩,.int .i64 ((m : Nat)),.int .i64 (p),.slice a ks.len c] 24) = W1:=⟨_,rfl⟩
  rw [hX,hW1] at B
  unfold namT at hL
  simp only [Int.toNat_natCast,List.length_append] at hL
  obtain ⟨p0,p1,p2,p3,p4⟩:=B.box.five
  have C1:=list_t (by omega) tk CE b (fun g=>P g ∧ g ≠ X) L W1 a c (ks.take m) B.te ((B.tq.rv HR.out).take m) (by have:=ks.take_siz m;omega) (F.wf_take ks m hwk) (by omega)
  rw [F.take_len ks m hm] at C1
  have HD1 : Hid (Tx b P L W X #[.int .i64 k,.string ⟨t.toArray⟩,.int .i64 (m : Nat),.int .i64 p,.slice a ks.len c] W1):=B
  by_cases hlt : m < ks.len
  · have hl2 : (m : Int) < (ks.len : Int):=by omega
    have ha : ∃ g o,a = some ⟨g,o,none⟩:=by
      obtain ⟨x,hx⟩:=ks.get_some 0 (by omega)
      obtain ⟨g,o,_,_,e,_⟩:=Rv.nth ks 0 hr (k:=x.1) (t:=x.2.1) (n:=x.2.2.1) (p:=x.2.2.2.1) (ks:=x.2.2.2.2) hx
      exact ⟨g,o,e⟩
    obtain ⟨g,o,rfl⟩:=ha
    have hc1 : ¬ c = m:=by omega
    have hc2 : ¬ c - m = 0:=by omega
    have hc3 : ¬ c ≤ m:=by omega
    rw [if_pos hl2] at hL
    simp only [List.length_cons] at hL
    clear h hr B
    go_enter Tryz.func76,Tryz.ntmps76
    go_wp2_with fail
    refine C1.mono ?_;rintro e w1 hq1
    have D1:=HD1.out.step hq1
    obtain ⟨rfl,-⟩:=hq1
    obtain ⟨p0,p1,p2,p3,p4⟩:=D1.box.five
    have C2:=D1.add1 [61] (by simp only [List.length_append];omega)
    clear C1 HD1 D1
    go_wp2_with fail
    refine C2.mono ?_;rintro e w2 ⟨rfl,D2,-⟩
    obtain ⟨p0,p1,p2,p3,p4⟩:=D2.box.five
    have C3:=list_t (by omega) tk CE b (fun g=>P g ∧ g ≠ X) (L ++ lsT tk false (ks.take m) ++ [[61]]) w2 (some ⟨g,o + m * 5,none⟩) (c - m) (ks.drop m) D2.te (Rv.drop ks m (D2.tq.rv HR.out)) (by have:=ks.drop_siz m;omega) (F.wf_drop ks m hwk) (by simp only [List.length_append,List.length_cons,List.length_nil];omega)
    rw [F.drop_len] at C3
    have HD2 : Hid (Tx b P (L ++ lsT tk false (ks.take m) ++ [[61]]) W X #[.int .i64 k,.string ⟨t.toArray⟩,.int .i64 (m : Nat),.int .i64 p,.slice (some ⟨g,o,none⟩) ks.len c] w2):=D2
    clear C2 D2
    go_wp2_with fail
    refine C3.mono ?_;rintro e w3 hq3
    have HD3 : Hid (Tq b P (L ++ lsT tk false (ks.take m) ++ [[61]] ++ lsT tk false (ks.drop m)) W w3):=(HD2.out.step hq3).tq
    obtain ⟨rfl,-⟩:=hq3
    clear C3 HD2
    go_wp2
    go_end0
    have e : L ++ namT tk (m : Int) ks = L ++ lsT tk false (ks.take m) ++ [[61]] ++ lsT tk false (ks.drop m):=by simp [namT,hlt]
    rw [e]
    exact ⟨rfl,HD3.out.te,HD3.out.ky⟩
  · have hl2 : ¬ (m : Int) < (ks.len : Int):=by omega
    clear h hr B
    go_enter Tryz.func76,Tryz.ntmps76
    go_wp2_with fail
    refine C1.mono ?_;rintro e w1 hq1
    have D1:=HD1.out.step hq1
    obtain ⟨rfl,-⟩:=hq1
    obtain ⟨p0,p1,p2,p3,p4⟩:=D1.box.five
    have HD : Hid (Tq b P (L ++ lsT tk false (ks.take m)) W w1):=D1.tq
    clear C1 HD1 D1
    go_wp2
    go_end0
    have e : L ++ namT tk (m : Int) ks = L ++ lsT tk false (ks.take m):=by simp [namT,hlt]
    rw [e]
    exact ⟨rfl,HD.out.te,HD.out.ky⟩
end Go.Proofs.YtlgkfhipobdcfaaGreatDoor

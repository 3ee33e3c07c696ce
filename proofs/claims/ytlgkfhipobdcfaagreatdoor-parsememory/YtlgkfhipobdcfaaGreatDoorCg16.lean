import Derived.Test.YtlgkfhipobdcfaaGreatDoorCg15
namespace Go.Proofs.YtlgkfhipobdcfaaGreatDoor
open Go.RowKit
theorem Tx.add3 {b : Nat} {P : Nat → Prop} {L : Tks} {W w : World} {X : Nat} {cur : Array Value} (h : Tx b P L W X cur w) (s1 s2 s3 : List UInt8) (hL : L.length + 3 ≤ 1000000) :
    Calls Tryz.prog 53 #[.pointer (some ⟨b,0,none⟩),.slice (some ⟨w.heap.size,0,none⟩) 3 3] (w.alloc (.cells #[.string ⟨s1.toArray⟩,.string ⟨s2.toArray⟩,.string ⟨s3.toArray⟩] 9)) fun e w'=>e = .returned (.tuple #[]) ∧ Tx b P (L ++ [s1,s2,s3]) W X cur w' ∧ Ky (fun k=>k = b ∨ P k) w w' :=
  (adds_any (h.te.alloc _) w.heap.size 3 [s1,s2,s3] (Bx.new w 9 #[.string ⟨s1.toArray⟩,.string ⟨s2.toArray⟩,.string ⟨s3.toArray⟩]) rfl (by omega) hL).mono fun _ _ hc=>⟨hc.1,(h.alloc _).step hc,((Ky.refl _ w).alloc _).trans (hc.2.2.mono fun _ _ e=>e.imp id And.left)⟩
theorem wr_i64 (x : Int) (h0 : -1 ≤ x) (h1 : x ≤ 2000000) : IntKind.i64.wrap x = x:=by rw [IntKind.wrap_i64];omega
set_option maxRecDepth 20000 in
set_option maxHeartbeats 8000000 in
theorem stat_t {N : Nat} (hN : N ≤ 900000) (tk tb : Int → List UInt8 → Int → F → Tks) (CE : CT 79 N tk) (CB : CT 27 N tb) : CT 52 (N + 1) (stT tk tb):=by
  intro b P L W k t n p a c ks h hr hs hw hcc hL
  obtain ⟨har,ht,hwk⟩:=F.wf_one hw
  have hlen:=ks.len_siz
  have B:=h.tq.box #[.int .i64 k,.string ⟨t.toArray⟩,.int .i64 n,.int .i64 p,.slice a ks.len c]
  have HR : Hid (Rv W (fun g=>g < b) a ks):=hr
  have HA : Hid (∀ i,i < ks.len → ∃ g o,a = some ⟨g,o,none⟩):=fun i hi=>by
    obtain ⟨x,hx⟩:=ks.get_some i hi
    obtain ⟨g,o,_,_,e,_⟩:=Rv.nth ks i hr (k:=x.1) (t:=x.2.1) (n:=x.2.2.1) (p:=x.2.2.2.1) (ks:=x.2.2.2.2) hx
    exact ⟨g,o,e⟩
  have wl:=wr_i64 ((ks.len : Int) - 1) (by omega) (by omega)
  obtain ⟨X,hX⟩ : ∃ X,W.heap.size = X:=⟨_,rfl⟩
  obtain ⟨W1,hW1⟩ : ∃ W1,W.alloc (.cells #[.int .i64 (k),.string ⟨(t).toArray⟩,.int .i64 (n),.int .i64 (p),.slice a ks.len c] 24) = W1:=⟨_,rfl⟩
  rw [hX,hW1] at B
  clear h hr hw
  by_cases h21 : k = 21
  · subst h21
    obtain ⟨m,rfl⟩ : ∃ m : Nat,n = (m : Int):=⟨n.toNat,by simp [arW] at har;omega⟩
    have hm : m ≤ ks.len:=by simp [arW] at har;omega
    unfold stT at hL
    simp only [Int.reduceEq,if_false,if_true] at hL
    skip
    try simp at hL
    obtain ⟨p0,p1,p2,p3,p4⟩:=B.box.five
    go_enter Tryz.func52,Tryz.ntmps52
    have CA1:=B.add1 [108,111,99,97,108] (by first | omega | (simp;omega))
    clear B
    go_wp2_with fail
    refine CA1.mono ?_;rintro e w1 ⟨rfl,D1,-⟩
    obtain ⟨p0,p1,p2,p3,p4⟩:=D1.box.five
    clear CA1
    have C2:=names_t (by omega) tk CE b (fun g=>P g ∧ g ≠ X) (L ++ [[108,111,99,97,108]]) w1 21 t m p a c ks D1.te (D1.tq.rv HR.out) (by omega) hwk hcc hm (by first | omega | (simp;omega))
    have HD2 : Hid _:=D1
    clear D1
    go_wp2_with fail
    refine C2.mono ?_;rintro e w2 hq2
    have D2:=HD2.out.step hq2
    obtain ⟨rfl,-⟩:=hq2
    obtain ⟨p0,p1,p2,p3,p4⟩:=D2.box.five
    clear C2 HD2
    have HD : Hid (Tq b P ((L ++ [[108,111,99,97,108]]) ++ namT tk (m : Int) ks) W w2):=D2.tq
    clear D2
    go_wp2
    go_end0
    have e : L ++ stT tk tb 21 t (m : Int) ks = ((L ++ [[108,111,99,97,108]]) ++ namT tk (m : Int) ks):=by simp [stT]
    rw [e]
    exact ⟨rfl,HD.out.te,HD.out.ky⟩
  by_cases h22 : k = 22
  · subst h22
    obtain ⟨m,rfl⟩ : ∃ m : Nat,n = (m : Int):=⟨n.toNat,by simp [arW] at har;omega⟩
    have hm : m ≤ ks.len:=by simp [arW] at har;omega
    unfold stT at hL
    simp only [Int.reduceEq,if_false,if_true] at hL
    skip
    try simp at hL
    obtain ⟨p0,p1,p2,p3,p4⟩:=B.box.five
    go_enter Tryz.func52,Tryz.ntmps52
    have C1:=names_t (by omega) tk CE b (fun g=>P g ∧ g ≠ X) L W1 22 t m p a c ks B.te (B.tq.rv HR.out) (by omega) hwk hcc hm (by first | omega | (simp;omega))
    have HD1 : Hid _:=B
    clear B
    go_wp2_with fail
    refine C1.mono ?_;rintro e w1 hq1
    have D1:=HD1.out.step hq1
    obtain ⟨rfl,-⟩:=hq1
    obtain ⟨p0,p1,p2,p3,p4⟩:=D1.box.five
    clear C1 HD1
    have HD : Hid (Tq b P (L ++ namT tk (m : Int) ks) W w1):=D1.tq
    clear D1
    go_wp2
    go_end0
    have e : L ++ stT tk tb 22 t (m : Int) ks = (L ++ namT tk (m : Int) ks):=by simp [stT]
    rw [e]
    exact ⟨rfl,HD.out.te,HD.out.ky⟩
  by_cases h23 : k = 23
  · subst h23
    unfold stT at hL
    simp only [Int.reduceEq,if_false,if_true] at hL
    skip
    try simp at hL
    obtain ⟨p0,p1,p2,p3,p4⟩:=B.box.five
    go_enter Tryz.func52,Tryz.ntmps52
    have C1:=list_t (by omega) tk CE b (fun g=>P g ∧ g ≠ X) L W1 a c ks B.te (B.tq.rv HR.out) (by omega) hwk (by first | omega | (simp;omega))
    have HD1 : Hid _:=B
    clear B
    go_wp2_with fail
    refine C1.mono ?_;rintro e w1 hq1
    have D1:=HD1.out.step hq1
    obtain ⟨rfl,-⟩:=hq1
    obtain ⟨p0,p1,p2,p3,p4⟩:=D1.box.five
    clear C1 HD1
    have HD : Hid (Tq b P (L ++ lsT tk false ks) W w1):=D1.tq
    clear D1
    go_wp2
    go_end0
    have e : L ++ stT tk tb 23 t n ks = (L ++ lsT tk false ks):=by simp [stT]
    rw [e]
    exact ⟨rfl,HD.out.te,HD.out.ky⟩
  by_cases h24 : k = 24
  · subst h24
    unfold stT at hL
    simp only [Int.reduceEq,if_false,if_true] at hL
    skip
    try simp at hL
    obtain ⟨p0,p1,p2,p3,p4⟩:=B.box.five
    go_enter Tryz.func52,Tryz.ntmps52
    have C1:=choice_t tk tb CE CB b (fun g=>P g ∧ g ≠ X) L W1 a c ks B.te (B.tq.rv HR.out) (by omega) hwk hcc (by first | omega | (simp;omega))
    have HD1 : Hid _:=B
    clear B
    go_wp2_with fail
    refine C1.mono ?_;rintro e w1 hq1
    have D1:=HD1.out.step hq1
    obtain ⟨rfl,-⟩:=hq1
    obtain ⟨p0,p1,p2,p3,p4⟩:=D1.box.five
    clear C1 HD1
    have HD : Hid (Tq b P (L ++ choT tk tb [105,102] ks) W w1):=D1.tq
    clear D1
    go_wp2
    go_end0
    have e : L ++ stT tk tb 24 t n ks = (L ++ choT tk tb [105,102] ks):=by simp [stT]
    rw [e]
    exact ⟨rfl,HD.out.te,HD.out.ky⟩
  by_cases h25 : k = 25
  · subst h25
    obtain ⟨⟨kk0,tt0,nn0,pp0,ks0⟩,hget0⟩:=ks.get_some 0 (by simp [arW] at har;omega)
    have hnd0 : ndT tk ks 0 = tk kk0 tt0 nn0 ks0:=by unfold ndT;rw [hget0];rfl
    have hl1 : 1 ≤ ks.len:=by simp [arW] at har;omega
    obtain ⟨gg,oo,rfl⟩:=HA.out 0 (by omega)
    obtain ⟨l,hl⟩ : ∃ l,ks.len = l + 1:=⟨ks.len - 1,by omega⟩
    have hl2 : ks.len - 1 = l:=by omega
    obtain ⟨⟨kkl,ttl,nnl,ppl,ksl⟩,hgetl⟩:=ks.get_some l (by omega)
    have hndl : ndT tb ks l = tb kkl ttl nnl ksl:=by unfold ndT;rw [hgetl];rfl
    have wl2:=wr_i64 (l : Int) (by omega) (by omega)
    have hlc : l + 1 ≤ c ∧ c ≤ maxLen:=by omega
    have HL : Hid (ks.len = l + 1):=hl
    rw [hl] at hW1 B wl ⊢
    rw [show ((l + 1 : Nat) : Int) - 1 = (l : Int) by omega] at wl
    clear hl
    unfold stT at hL
    simp only [Int.reduceEq,if_false,if_true] at hL
    rw [hl2] at hL
    unfold bodT at hL
    rw [hndl,hnd0] at hL
    try simp at hL
    obtain ⟨p0,p1,p2,p3,p4⟩:=B.box.five
    go_enter Tryz.func52,Tryz.ntmps52
    have CA1:=B.add1 [119,104,105,108,101] (by first | omega | (simp;omega))
    clear B
    go_wp2_with fail
    refine CA1.mono ?_;rintro e w1 ⟨rfl,D1,-⟩
    obtain ⟨p0,p1,p2,p3,p4⟩:=D1.box.five
    clear CA1
    obtain ⟨g,o,a2,c2,e2,hg2,k0,k1,k2,k3,k4,hK2,hc2⟩:=Rv.nth ks 0 (D1.tq.rv HR.out) hget0
    injection e2 with e2
    injection e2 with e2 f2
    subst e2 f2
    simp only [Nat.zero_mul,Nat.add_zero] at k0 k1 k2 k3 k4
    have C2:=CE b (fun g=>P g ∧ g ≠ X) (L ++ [[119,104,105,108,101]]) w1 kk0 tt0 nn0 pp0 a2 c2 ks0 D1.te hK2 (by have:=F.get_siz ks 0 _ _ _ _ _ hget0;omega) (F.wf_get ks 0 _ _ _ _ _ hwk hget0) hc2 (by first | omega | (simp;omega))
    clear hg2 hK2
    have HD2 : Hid _:=D1
    clear D1
    go_wp2_with fail
    refine C2.mono ?_;rintro e w2 hq2
    have D2:=HD2.out.step hq2
    obtain ⟨rfl,-⟩:=hq2
    obtain ⟨p0,p1,p2,p3,p4⟩:=D2.box.five
    clear C2 HD2
    clear k0 k1 k2 k3 k4
    obtain ⟨g,o,a3,c3,e3,hg3,k0,k1,k2,k3,k4,hK3,hc3⟩:=Rv.nth ks l (D2.tq.rv HR.out) hgetl
    injection e3 with e3
    injection e3 with e3 f3
    subst e3 f3
    have C3:=body_t tb CB b (fun g=>P g ∧ g ≠ X) ((L ++ [[119,104,105,108,101]]) ++ tk kk0 tt0 nn0 ks0) w2 kkl ttl nnl ppl a3 c3 ksl D2.te hK3 (by have:=F.get_siz ks l _ _ _ _ _ hgetl;omega) (F.wf_get ks l _ _ _ _ _ hwk hgetl) hc3 (by first | omega | (simp;omega))
    clear hg3 hK3
    have HD3 : Hid _:=D2
    clear D2
    go_wp2_with fail
    refine C3.mono ?_;rintro e w3 hq3
    have D3:=HD3.out.step hq3
    obtain ⟨rfl,-⟩:=hq3
    obtain ⟨p0,p1,p2,p3,p4⟩:=D3.box.five
    clear C3 HD3
    clear k0 k1 k2 k3 k4
    have HD : Hid (Tq b P (((L ++ [[119,104,105,108,101]]) ++ tk kk0 tt0 nn0 ks0) ++ ([100,111] :: (tb kkl ttl nnl ksl ++ [[101,110,100]]))) W w3):=D3.tq
    clear D3
    go_wp2
    go_end0
    have e : L ++ stT tk tb 25 t n ks = (((L ++ [[119,104,105,108,101]]) ++ tk kk0 tt0 nn0 ks0) ++ ([100,111] :: (tb kkl ttl nnl ksl ++ [[101,110,100]]))):=by simp [stT,bodT,hl2,hndl,hnd0]
    rw [e]
    exact ⟨rfl,HD.out.te,HD.out.ky⟩
  by_cases h26 : k = 26
  · subst h26
    obtain ⟨⟨kk0,tt0,nn0,pp0,ks0⟩,hget0⟩:=ks.get_some 0 (by simp [arW] at har;omega)
    have hl3 : 2 ≤ ks.len:=by simp [arW] at har;omega
    have hl1 : 1 ≤ ks.len:=by simp [arW] at har;omega
    obtain ⟨gg,oo,rfl⟩:=HA.out 0 (by omega)
    obtain ⟨l,hl⟩ : ∃ l,ks.len = l + 1:=⟨ks.len - 1,by omega⟩
    have hl2 : ks.len - 1 = l:=by omega
    obtain ⟨⟨kkl,ttl,nnl,ppl,ksl⟩,hgetl⟩:=ks.get_some l (by omega)
    have hndl : ndT tb ks l = tb kkl ttl nnl ksl:=by unfold ndT;rw [hgetl];rfl
    have wl2:=wr_i64 (l : Int) (by omega) (by omega)
    have hlc : l + 1 ≤ c ∧ c ≤ maxLen:=by omega
    have HL : Hid (ks.len = l + 1):=hl
    rw [hl] at hW1 B wl ⊢
    rw [show ((l + 1 : Nat) : Int) - 1 = (l : Int) by omega] at wl
    clear hl
    have hk1 : 1 ≤ l:=by have:=HL.out;omega
    have hk2 : (1 : Int) ≤ (l : Int):=by omega
    have hc1 : ¬ c = 1:=by omega
    have htx : (ks.get? 0).elim ([] : List UInt8) (fun x=>x.2.1) = tt0:=by rw [hget0];rfl
    unfold stT at hL
    simp only [Int.reduceEq,if_false,if_true] at hL
    rw [hl2] at hL
    unfold bodT at hL
    rw [hndl] at hL
    try simp at hL
    obtain ⟨p0,p1,p2,p3,p4⟩:=B.box.five
    go_enter Tryz.func52,Tryz.ntmps52
    obtain ⟨g,o,a9,c9,e9,hg9,k0,k1,k2,k3,k4,hK9,hc9⟩:=Rv.nth ks 0 (B.tq.rv HR.out) hget0
    injection e9 with e9
    injection e9 with e9 f9
    subst e9 f9
    simp only [Nat.zero_mul,Nat.add_zero] at k0 k1 k2 k3 k4
    clear hg9 hK9 hc9
    have CA1:=B.add3 [102,111,114] tt0 [61] (by first | omega | (simp;omega))
    clear B
    go_wp2_with fail
    refine CA1.mono ?_;rintro e w1 ⟨rfl,D1,-⟩
    obtain ⟨p0,p1,p2,p3,p4⟩:=D1.box.five
    clear CA1
    clear k0 k1 k2 k3 k4
    have C2:=list_t (by omega) tk CE b (fun g=>P g ∧ g ≠ X) (L ++ [[102,111,114],tt0,[61]]) w1 (some ⟨gg,oo + 1 * 5,none⟩) (c - 1) ((ks.take l).drop 1) D1.te (Rv.drop (ks.take l) 1 ((D1.tq.rv HR.out).take l)) (by have:=(ks.take l).drop_siz 1;have:=ks.take_siz l;omega) (F.wf_drop _ 1 (F.wf_take ks l hwk)) (by first | omega | (simp;omega))
    rw [F.drop_len,F.take_len ks l (by have:=HL.out;omega)] at C2
    simp only [Nat.one_mul] at C2
    have HD2 : Hid _:=D1
    clear D1
    go_wp2_with fail
    refine C2.mono ?_;rintro e w2 hq2
    have D2:=HD2.out.step hq2
    obtain ⟨rfl,-⟩:=hq2
    obtain ⟨p0,p1,p2,p3,p4⟩:=D2.box.five
    clear C2 HD2
    obtain ⟨g,o,a3,c3,e3,hg3,k0,k1,k2,k3,k4,hK3,hc3⟩:=Rv.nth ks l (D2.tq.rv HR.out) hgetl
    injection e3 with e3
    injection e3 with e3 f3
    subst e3 f3
    have C3:=body_t tb CB b (fun g=>P g ∧ g ≠ X) ((L ++ [[102,111,114],tt0,[61]]) ++ lsT tk false ((ks.take l).drop 1)) w2 kkl ttl nnl ppl a3 c3 ksl D2.te hK3 (by have:=F.get_siz ks l _ _ _ _ _ hgetl;omega) (F.wf_get ks l _ _ _ _ _ hwk hgetl) hc3 (by first | omega | (simp;omega))
    clear hg3 hK3
    have HD3 : Hid _:=D2
    clear D2
    go_wp2_with fail
    refine C3.mono ?_;rintro e w3 hq3
    have D3:=HD3.out.step hq3
    obtain ⟨rfl,-⟩:=hq3
    obtain ⟨p0,p1,p2,p3,p4⟩:=D3.box.five
    clear C3 HD3
    clear k0 k1 k2 k3 k4
    have HD : Hid (Tq b P (((L ++ [[102,111,114],tt0,[61]]) ++ lsT tk false ((ks.take l).drop 1)) ++ ([100,111] :: (tb kkl ttl nnl ksl ++ [[101,110,100]]))) W w3):=D3.tq
    clear D3
    go_wp2
    go_end0
    have e : L ++ stT tk tb 26 t n ks = (((L ++ [[102,111,114],tt0,[61]]) ++ lsT tk false ((ks.take l).drop 1)) ++ ([100,111] :: (tb kkl ttl nnl ksl ++ [[101,110,100]]))):=by simp [stT,bodT,hl2,hndl,htx]
    rw [e]
    exact ⟨rfl,HD.out.te,HD.out.ky⟩
  by_cases h27 : k = 27
  · subst h27
    obtain ⟨m,rfl⟩ : ∃ m : Nat,n = (m : Int):=⟨n.toNat,by simp [arW] at har;omega⟩
    have hm1 : m + 1 ≤ ks.len:=by simp [arW] at har;omega
    have hl1 : 1 ≤ ks.len:=by simp [arW] at har;omega
    obtain ⟨gg,oo,rfl⟩:=HA.out 0 (by omega)
    obtain ⟨l,hl⟩ : ∃ l,ks.len = l + 1:=⟨ks.len - 1,by omega⟩
    have hl2 : ks.len - 1 = l:=by omega
    obtain ⟨⟨kkl,ttl,nnl,ppl,ksl⟩,hgetl⟩:=ks.get_some l (by omega)
    have hndl : ndT tb ks l = tb kkl ttl nnl ksl:=by unfold ndT;rw [hgetl];rfl
    have wl2:=wr_i64 (l : Int) (by omega) (by omega)
    have hlc : l + 1 ≤ c ∧ c ≤ maxLen:=by omega
    have HL : Hid (ks.len = l + 1):=hl
    rw [hl] at hW1 B wl ⊢
    rw [show ((l + 1 : Nat) : Int) - 1 = (l : Int) by omega] at wl
    clear hl
    have hm2 : m ≤ l:=by have:=HL.out;omega
    have hm3 : (m : Int) ≤ (l : Int):=by omega
    have hm4 : (m : Int) ≤ (c : Int):=by omega
    have hm5 : ¬ (m : Int) < 0:=by omega
    have hm6 : m ≤ c:=by omega
    have hc1 : ¬ c = m:=by omega
    have hc2 : ¬ c - m = 0:=by omega
    unfold stT at hL
    simp only [Int.reduceEq,if_false,if_true] at hL
    rw [hl2] at hL
    unfold bodT at hL
    rw [hndl] at hL
    try simp at hL
    obtain ⟨p0,p1,p2,p3,p4⟩:=B.box.five
    go_enter Tryz.func52,Tryz.ntmps52
    have CA1:=B.add1 [102,111,114] (by first | omega | (simp;omega))
    clear B
    go_wp2_with fail
    refine CA1.mono ?_;rintro e w1 ⟨rfl,D1,-⟩
    obtain ⟨p0,p1,p2,p3,p4⟩:=D1.box.five
    clear CA1
    have C2:=list_t (by omega) tk CE b (fun g=>P g ∧ g ≠ X) (L ++ [[102,111,114]]) w1 (some ⟨gg,oo,none⟩) c (ks.take m) D1.te ((D1.tq.rv HR.out).take m) (by have:=ks.take_siz m;omega) (F.wf_take ks m hwk) (by first | omega | (simp;omega))
    rw [F.take_len ks m (by have:=HL.out;omega)] at C2
    have HD2 : Hid _:=D1
    clear D1
    go_wp2_with fail
    refine C2.mono ?_;rintro e w2 hq2
    have D2:=HD2.out.step hq2
    obtain ⟨rfl,-⟩:=hq2
    obtain ⟨p0,p1,p2,p3,p4⟩:=D2.box.five
    clear C2 HD2
    have CA3:=D2.add1 [105,110] (by first | omega | (simp;omega))
    clear D2
    go_wp2_with fail
    refine CA3.mono ?_;rintro e w3 ⟨rfl,D3,-⟩
    obtain ⟨p0,p1,p2,p3,p4⟩:=D3.box.five
    clear CA3
    have C4:=list_t (by omega) tk CE b (fun g=>P g ∧ g ≠ X) (((L ++ [[102,111,114]]) ++ lsT tk false (ks.take m)) ++ [[105,110]]) w3 (some ⟨gg,oo + m * 5,none⟩) (c - m) ((ks.take l).drop m) D3.te (Rv.drop (ks.take l) m ((D3.tq.rv HR.out).take l)) (by have:=(ks.take l).drop_siz m;have:=ks.take_siz l;omega) (F.wf_drop _ m (F.wf_take ks l hwk)) (by first | omega | (simp;omega))
    rw [F.drop_len,F.take_len ks l (by have:=HL.out;omega)] at C4
    have HD4 : Hid _:=D3
    clear D3
    go_wp2_with fail
    refine C4.mono ?_;rintro e w4 hq4
    have D4:=HD4.out.step hq4
    obtain ⟨rfl,-⟩:=hq4
    obtain ⟨p0,p1,p2,p3,p4⟩:=D4.box.five
    clear C4 HD4
    obtain ⟨g,o,a5,c5,e5,hg5,k0,k1,k2,k3,k4,hK5,hc5⟩:=Rv.nth ks l (D4.tq.rv HR.out) hgetl
    injection e5 with e5
    injection e5 with e5 f5
    subst e5 f5
    have C5:=body_t tb CB b (fun g=>P g ∧ g ≠ X) ((((L ++ [[102,111,114]]) ++ lsT tk false (ks.take m)) ++ [[105,110]]) ++ lsT tk false ((ks.take l).drop m)) w4 kkl ttl nnl ppl a5 c5 ksl D4.te hK5 (by have:=F.get_siz ks l _ _ _ _ _ hgetl;omega) (F.wf_get ks l _ _ _ _ _ hwk hgetl) hc5 (by first | omega | (simp;omega))
    clear hg5 hK5
    have HD5 : Hid _:=D4
    clear D4
    go_wp2_with fail
    refine C5.mono ?_;rintro e w5 hq5
    have D5:=HD5.out.step hq5
    obtain ⟨rfl,-⟩:=hq5
    obtain ⟨p0,p1,p2,p3,p4⟩:=D5.box.five
    clear C5 HD5
    clear k0 k1 k2 k3 k4
    have HD : Hid (Tq b P (((((L ++ [[102,111,114]]) ++ lsT tk false (ks.take m)) ++ [[105,110]]) ++ lsT tk false ((ks.take l).drop m)) ++ ([100,111] :: (tb kkl ttl nnl ksl ++ [[101,110,100]]))) W w5):=D5.tq
    clear D5
    go_wp2
    go_end0
    have e : L ++ stT tk tb 27 t (m : Int) ks = (((((L ++ [[102,111,114]]) ++ lsT tk false (ks.take m)) ++ [[105,110]]) ++ lsT tk false ((ks.take l).drop m)) ++ ([100,111] :: (tb kkl ttl nnl ksl ++ [[101,110,100]]))):=by simp [stT,bodT,hl2,hndl]
    rw [e]
    exact ⟨rfl,HD.out.te,HD.out.ky⟩
  by_cases h28 : k = 28
  · subst h28
    have hl1 : 1 ≤ ks.len:=by simp [arW] at har;omega
    obtain ⟨gg,oo,rfl⟩:=HA.out 0 (by omega)
    obtain ⟨l,hl⟩ : ∃ l,ks.len = l + 1:=⟨ks.len - 1,by omega⟩
    have hl2 : ks.len - 1 = l:=by omega
    obtain ⟨⟨kkl,ttl,nnl,ppl,ksl⟩,hgetl⟩:=ks.get_some l (by omega)
    have hndl : ndT tb ks l = tb kkl ttl nnl ksl:=by unfold ndT;rw [hgetl];rfl
    have wl2:=wr_i64 (l : Int) (by omega) (by omega)
    have hlc : l + 1 ≤ c ∧ c ≤ maxLen:=by omega
    have HL : Hid (ks.len = l + 1):=hl
    rw [hl] at hW1 B wl ⊢
    rw [show ((l + 1 : Nat) : Int) - 1 = (l : Int) by omega] at wl
    clear hl
    unfold stT at hL
    simp only [Int.reduceEq,if_false,if_true] at hL
    rw [hl2] at hL
    unfold bodT at hL
    rw [hndl] at hL
    try simp at hL
    obtain ⟨p0,p1,p2,p3,p4⟩:=B.box.five
    go_enter Tryz.func52,Tryz.ntmps52
    obtain ⟨g,o,a1,c1,e1,hg1,k0,k1,k2,k3,k4,hK1,hc1⟩:=Rv.nth ks l (B.tq.rv HR.out) hgetl
    injection e1 with e1
    injection e1 with e1 f1
    subst e1 f1
    have C1:=body_t tb CB b (fun g=>P g ∧ g ≠ X) L W1 kkl ttl nnl ppl a1 c1 ksl B.te hK1 (by have:=F.get_siz ks l _ _ _ _ _ hgetl;omega) (F.wf_get ks l _ _ _ _ _ hwk hgetl) hc1 (by first | omega | (simp;omega))
    clear hg1 hK1
    have HD1 : Hid _:=B
    clear B
    go_wp2_with fail
    refine C1.mono ?_;rintro e w1 hq1
    have D1:=HD1.out.step hq1
    obtain ⟨rfl,-⟩:=hq1
    obtain ⟨p0,p1,p2,p3,p4⟩:=D1.box.five
    clear C1 HD1
    clear k0 k1 k2 k3 k4
    have HD : Hid (Tq b P (L ++ ([100,111] :: (tb kkl ttl nnl ksl ++ [[101,110,100]]))) W w1):=D1.tq
    clear D1
    go_wp2
    go_end0
    have e : L ++ stT tk tb 28 t n ks = (L ++ ([100,111] :: (tb kkl ttl nnl ksl ++ [[101,110,100]]))):=by simp [stT,bodT,hl2,hndl]
    rw [e]
    exact ⟨rfl,HD.out.te,HD.out.ky⟩
  by_cases h29 : k = 29
  · subst h29
    unfold stT at hL
    simp only [Int.reduceEq,if_false,if_true] at hL
    skip
    try simp at hL
    obtain ⟨p0,p1,p2,p3,p4⟩:=B.box.five
    go_enter Tryz.func52,Tryz.ntmps52
    have CA1:=B.add1 [98,114,101,97,107] (by first | omega | (simp;omega))
    clear B
    go_wp2_with fail
    refine CA1.mono ?_;rintro e w1 ⟨rfl,D1,-⟩
    obtain ⟨p0,p1,p2,p3,p4⟩:=D1.box.five
    clear CA1
    have HD : Hid (Tq b P (L ++ [[98,114,101,97,107]]) W w1):=D1.tq
    clear D1
    go_wp2
    go_end0
    have e : L ++ stT tk tb 29 t n ks = (L ++ [[98,114,101,97,107]]):=by simp [stT]
    rw [e]
    exact ⟨rfl,HD.out.te,HD.out.ky⟩
  by_cases h30 : k = 30
  · subst h30
    unfold stT at hL
    simp only [Int.reduceEq,if_false,if_true] at hL
    skip
    try simp at hL
    obtain ⟨p0,p1,p2,p3,p4⟩:=B.box.five
    go_enter Tryz.func52,Tryz.ntmps52
    have CA1:=B.add1 [114,101,116,117,114,110] (by first | omega | (simp;omega))
    clear B
    go_wp2_with fail
    refine CA1.mono ?_;rintro e w1 ⟨rfl,D1,-⟩
    obtain ⟨p0,p1,p2,p3,p4⟩:=D1.box.five
    clear CA1
    have C2:=list_t (by omega) tk CE b (fun g=>P g ∧ g ≠ X) (L ++ [[114,101,116,117,114,110]]) w1 a c ks D1.te (D1.tq.rv HR.out) (by omega) hwk (by first | omega | (simp;omega))
    have HD2 : Hid _:=D1
    clear D1
    go_wp2_with fail
    refine C2.mono ?_;rintro e w2 hq2
    have D2:=HD2.out.step hq2
    obtain ⟨rfl,-⟩:=hq2
    obtain ⟨p0,p1,p2,p3,p4⟩:=D2.box.five
    clear C2 HD2
    have HD : Hid (Tq b P ((L ++ [[114,101,116,117,114,110]]) ++ lsT tk false ks) W w2):=D2.tq
    clear D2
    go_wp2
    go_end0
    have e : L ++ stT tk tb 30 t n ks = ((L ++ [[114,101,116,117,114,110]]) ++ lsT tk false ks):=by simp [stT]
    rw [e]
    exact ⟨rfl,HD.out.te,HD.out.ky⟩
  by_cases h31 : k = 31
  · subst h31
    obtain ⟨m,rfl⟩ : ∃ m : Nat,n = (m : Int):=⟨n.toNat,by simp [arW] at har;omega⟩
    have hm1 : m + 1 ≤ ks.len:=by simp [arW] at har;omega
    have hl1 : 1 ≤ ks.len:=by simp [arW] at har;omega
    obtain ⟨gg,oo,rfl⟩:=HA.out 0 (by omega)
    obtain ⟨l,hl⟩ : ∃ l,ks.len = l + 1:=⟨ks.len - 1,by omega⟩
    have hl2 : ks.len - 1 = l:=by omega
    obtain ⟨⟨kkl,ttl,nnl,ppl,ksl⟩,hgetl⟩:=ks.get_some l (by omega)
    have hndl : ndT tb ks l = tb kkl ttl nnl ksl:=by unfold ndT;rw [hgetl];rfl
    have wl2:=wr_i64 (l : Int) (by omega) (by omega)
    have hlc : l + 1 ≤ c ∧ c ≤ maxLen:=by omega
    have HL : Hid (ks.len = l + 1):=hl
    rw [hl] at hW1 B wl ⊢
    rw [show ((l + 1 : Nat) : Int) - 1 = (l : Int) by omega] at wl
    clear hl
    have hm2 : m ≤ l:=by have:=HL.out;omega
    have hm3 : (m : Int) ≤ (l : Int):=by omega
    have hm4 : (m : Int) ≤ (c : Int):=by omega
    have hm5 : ¬ (m : Int) < 0:=by omega
    have hm6 : m ≤ c:=by omega
    have hc1 : ¬ c = m:=by omega
    have hc2 : ¬ c - m = 0:=by omega
    unfold stT at hL
    simp only [Int.reduceEq,if_false,if_true] at hL
    rw [hl2,hndl] at hL
    try simp at hL
    obtain ⟨p0,p1,p2,p3,p4⟩:=B.box.five
    go_enter Tryz.func52,Tryz.ntmps52
    have CA1:=B.add3 [102,117,110,99,116,105,111,110] t [40] (by first | omega | (simp;omega))
    clear B
    go_wp2_with fail
    refine CA1.mono ?_;rintro e w1 ⟨rfl,D1,-⟩
    obtain ⟨p0,p1,p2,p3,p4⟩:=D1.box.five
    clear CA1
    have C2:=list_t (by omega) tk CE b (fun g=>P g ∧ g ≠ X) (L ++ [[102,117,110,99,116,105,111,110],t,[40]]) w1 (some ⟨gg,oo,none⟩) c (ks.take m) D1.te ((D1.tq.rv HR.out).take m) (by have:=ks.take_siz m;omega) (F.wf_take ks m hwk) (by first | omega | (simp;omega))
    rw [F.take_len ks m (by have:=HL.out;omega)] at C2
    have HD2 : Hid _:=D1
    clear D1
    go_wp2_with fail
    refine C2.mono ?_;rintro e w2 hq2
    have D2:=HD2.out.step hq2
    obtain ⟨rfl,-⟩:=hq2
    obtain ⟨p0,p1,p2,p3,p4⟩:=D2.box.five
    clear C2 HD2
    have CA3:=D2.add1 [41] (by first | omega | (simp;omega))
    clear D2
    go_wp2_with fail
    refine CA3.mono ?_;rintro e w3 ⟨rfl,D3,-⟩
    obtain ⟨p0,p1,p2,p3,p4⟩:=D3.box.five
    clear CA3
    obtain ⟨g,o,a4,c4,e4,hg4,k0,k1,k2,k3,k4,hK4,hc4⟩:=Rv.nth ks l (D3.tq.rv HR.out) hgetl
    injection e4 with e4
    injection e4 with e4 f4
    subst e4 f4
    have C4:=CB b (fun g=>P g ∧ g ≠ X) (((L ++ [[102,117,110,99,116,105,111,110],t,[40]]) ++ lsT tk false (ks.take m)) ++ [[41]]) w3 kkl ttl nnl ppl a4 c4 ksl D3.te hK4 (by have:=F.get_siz ks l _ _ _ _ _ hgetl;omega) (F.wf_get ks l _ _ _ _ _ hwk hgetl) hc4 (by first | omega | (simp;omega))
    clear hg4 hK4
    have HD4 : Hid _:=D3
    clear D3
    go_wp2_with fail
    refine C4.mono ?_;rintro e w4 hq4
    have D4:=HD4.out.step hq4
    obtain ⟨rfl,-⟩:=hq4
    obtain ⟨p0,p1,p2,p3,p4⟩:=D4.box.five
    clear C4 HD4
    clear k0 k1 k2 k3 k4
    have CA5:=D4.add1 [101,110,100] (by first | omega | (simp;omega))
    clear D4
    go_wp2_with fail
    refine CA5.mono ?_;rintro e w5 ⟨rfl,D5,-⟩
    obtain ⟨p0,p1,p2,p3,p4⟩:=D5.box.five
    clear CA5
    have HD : Hid (Tq b P (((((L ++ [[102,117,110,99,116,105,111,110],t,[40]]) ++ lsT tk false (ks.take m)) ++ [[41]]) ++ tb kkl ttl nnl ksl) ++ [[101,110,100]]) W w5):=D5.tq
    clear D5
    go_wp2
    go_end0
    have e : L ++ stT tk tb 31 t (m : Int) ks = (((((L ++ [[102,117,110,99,116,105,111,110],t,[40]]) ++ lsT tk false (ks.take m)) ++ [[41]]) ++ tb kkl ttl nnl ksl) ++ [[101,110,100]]):=by simp [stT,hl2,hndl]
    rw [e]
    exact ⟨rfl,HD.out.te,HD.out.ky⟩
  have HE : Hid (L ++ stT tk tb k t n ks = L):=by
    have : L ++ stT tk tb k t n ks = L:=by simp [stT,h21,h22,h23,h24,h25,h26,h27,h28,h29,h30,h31]
    exact this
  have HD : Hid (Tq b P L W W1):=B.tq
  obtain ⟨p0,p1,p2,p3,p4⟩:=B.box.five
  clear B hL
  go_enter Tryz.func52,Tryz.ntmps52
  go_wp2
  go_end0
  rw [HE.out]
  exact ⟨rfl,HD.out.te,HD.out.ky⟩
end Go.Proofs.YtlgkfhipobdcfaaGreatDoor

import Derived.Test.YtlgkfhipobdcfaaGreatDoorCg03
namespace Go.Proofs.YtlgkfhipobdcfaaGreatDoor
open Go.RowKit
set_option maxRecDepth 20000
set_option maxHeartbeats 1000000 in
theorem at_any (b m : Nat) (T l : List Tok) (t : Tok) (W : World) (h : PS b m T (t :: l) W) : Calls Tryz.prog 35 #[.pointer (some ⟨b,0,none⟩)] W fun e w'=>e = .returned (.int .i64 t.p) ∧ Below W.heap.size W w':=by
  go_enter Tryz.func35,Tryz.ntmps35
  go_wp2_with (go_at_call 33;refine (token_any b m T l t _ h).mono ?_;rintro e w1 ⟨rfl,hb⟩)
  go_ret
  exact ⟨rfl,hb⟩
theorem ba_eq (a w : List UInt8) : ((⟨a.toArray⟩ : ByteArray) = ⟨w.toArray⟩) ↔ a = w:=by
  constructor
  · intro h;injection h with h;injection h
  · rintro rfl;rfl
set_option maxHeartbeats 1000000 in
theorem reads_any (t : Tok) (w : List UInt8) (W : World) : Calls Tryz.prog 94 #[(.agg #[.int .i64 t.k,.string ⟨t.t.toArray⟩,.int .i64 t.v,.int .i64 t.p]),.string ⟨w.toArray⟩] W fun e w'=>e = .returned (.bool (rd t w)) ∧ Below W.heap.size W w':=by
  unfold rd
  by_cases hk2 : t.k = 2
  · by_cases ht : t.t = w
    · have e1 : ((t.k == 2 || t.k == 5) && t.t == w) = true:=by simp [hk2,ht]
      rw [e1]
      go_enter Tryz.func94,Tryz.ntmps94
      go_wp2
      go_ret
      exact ⟨rfl,(Below.refl _ _).alloc (Nat.le_refl _) _⟩
    · have e1 : ((t.k == 2 || t.k == 5) && t.t == w) = false:=by simp [ht]
      rw [e1]
      have ht' : ¬ ((⟨t.t.toArray⟩ : ByteArray) = ⟨w.toArray⟩):=fun e=>ht ((ba_eq _ _).1 e)
      go_enter Tryz.func94,Tryz.ntmps94
      go_wp2
      go_ret
      exact ⟨by simp [ht],(Below.refl _ _).alloc (Nat.le_refl _) _⟩
  · by_cases hk5 : t.k = 5
    · by_cases ht : t.t = w
      · have e1 : ((t.k == 2 || t.k == 5) && t.t == w) = true:=by simp [hk5,ht]
        rw [e1]
        go_enter Tryz.func94,Tryz.ntmps94
        go_wp2
        go_ret
        exact ⟨rfl,(Below.refl _ _).alloc (Nat.le_refl _) _⟩
      · have e1 : ((t.k == 2 || t.k == 5) && t.t == w) = false:=by simp [ht]
        rw [e1]
        have ht' : ¬ ((⟨t.t.toArray⟩ : ByteArray) = ⟨w.toArray⟩):=fun e=>ht ((ba_eq _ _).1 e)
        go_enter Tryz.func94,Tryz.ntmps94
        go_wp2
        go_ret
        exact ⟨by simp [ht],(Below.refl _ _).alloc (Nat.le_refl _) _⟩
    · have e1 : ((t.k == 2 || t.k == 5) && t.t == w) = false:=by simp [hk2,hk5]
      rw [e1]
      go_enter Tryz.func94,Tryz.ntmps94
      go_wp2
      go_ret
      exact ⟨rfl,(Below.refl _ _).alloc (Nat.le_refl _) _⟩
set_option maxHeartbeats 1000000 in
theorem is_any (b m : Nat) (T l : List Tok) (t : Tok) (w : List UInt8) (W : World) (h : PS b m T (t :: l) W) : Calls Tryz.prog 63 #[.pointer (some ⟨b,0,none⟩),.string ⟨w.toArray⟩] W fun e w'=>e = .returned (.bool (rd t w)) ∧ Below W.heap.size W w':=by
  go_enter Tryz.func63,Tryz.ntmps63
  go_wp2_with (first | (go_at_call 33;refine (token_any b m T l t _ h).mono ?_;rintro e w1 ⟨rfl,hb⟩) | (go_at_call 94;refine (reads_any t w _).mono ?_;rintro e w2 ⟨rfl,hb2⟩))
  go_ret
  exact ⟨rfl,hb.trans (hb2.mono hb.size)⟩
theorem PS.below {b m : Nat} {T l : List Tok} {W W' : World} (h : PS b m T l W) (hb : Below W.heap.size W W') : PS b m T l W':=h.ky (S:=fun _=>False) (.of_below hb) (fun _ _=>id)
theorem cls_rd {t : Tok} {c : Nat} (h : cls t = c) (h1 : 1 ≤ c) (h2 : c ≤ 42) : rd t (wds c) = true:=by rw [rd_cls t c h1 h2,h];simp
theorem cls_nrd {t : Tok} {c : Nat} (h : cls t ≠ c) (h1 : 1 ≤ c) (h2 : c ≤ 42) : rd t (wds c) = false:=by rw [rd_cls t c h1 h2];simpa using h
theorem refuse_p (a : Int) (w : World) : Calls Tryz.prog 34 #[.int .i64 a] w fun e w'=>e = refp a ∧ Below w.heap.size w w':=by
  go_enter Tryz.func34,Tryz.ntmps34
  go_wp2
  exact ⟨rfl,rfl,Below.refl _ _⟩
set_option maxHeartbeats 1000000 in
theorem take_p (b m : Nat) (T l : List Tok) (t : Tok) (W : World) (h : PS b m T (t :: l) W) (hc : cls t ≠ 56) : Calls Tryz.prog 95 #[.pointer (some ⟨b,0,none⟩)] W fun e w'=>e = .returned (.agg #[.int .i64 t.k,.string ⟨t.t.toArray⟩,.int .i64 t.v,.int .i64 t.p]) ∧ Tk b m T l W w':=by
  have hlt:=h.lt
  have hbW : W.heap.size ≠ b:=by omega
  go_enter Tryz.func95,Tryz.ntmps95
  go_wp2_with (go_at_call 33;refine (token_any b m T l t _ (h.alloc _)).mono ?_;rintro e w1 ⟨rfl,hb⟩;have hp1:=((h.alloc _).below hb).alloc (.cells #[.int .i64 t.k,.string ⟨t.t.toArray⟩,.int .i64 t.v,.int .i64 t.p] 79);obtain ⟨g,cap,i,r1,r2,r3,r4,-⟩:=hp1.reads;have r5:=hp1.fz;have hn:=hp1.next hc r2;have R0:=(((Bx.new W 79 _).below hb).alloc (.cells #[.int .i64 t.k,.string ⟨t.t.toArray⟩,.int .i64 t.v,.int .i64 t.p] 79)).set (o:=1) hbW (.int .i64 ((i : Int) + 1));have L0:=(Bx.new w1 79 #[.int .i64 t.k,.string ⟨t.t.toArray⟩,.int .i64 t.v,.int .i64 t.p]).set (b:=b) (o:=1) (by have:=hb.size;simp at this;omega) (.int .i64 ((i : Int) + 1));have K0 : Ky (fun k=>k = b) W ((w1.alloc (.cells #[.int .i64 t.k,.string ⟨t.t.toArray⟩,.int .i64 t.v,.int .i64 t.p] 79)).setCell ⟨b,1,none⟩ (.int .i64 ((i : Int) + 1))):=((((Ky.refl _ W).alloc _).trans (Ky.of_below hb)).alloc _).setP _;obtain ⟨w2,hw2⟩ : ∃ w2,(w1.alloc (.cells #[.int .i64 t.k,.string ⟨t.t.toArray⟩,.int .i64 t.v,.int .i64 t.p] 79)).setCell ⟨b,1,none⟩ (.int .i64 ((i : Int) + 1)) = w2:=⟨_,rfl⟩;rw [hw2] at hn R0 L0 K0;obtain ⟨l0,l1,l2,l3⟩:=L0.four;obtain ⟨q0,q1,q2,q3⟩:=R0.four;have f0:=R0.f 0;have f1:=R0.f 1;have f2:=R0.f 2;have f3:=R0.f 3)
  refine bodyPost_ret (v:=(.agg #[.int .i64 t.k,.string ⟨t.t.toArray⟩,.int .i64 t.v,.int .i64 t.p])) (by simp [results,Tryz.results95,go_sem,q0,q1,q2,q3]) rfl ?_
  exact ⟨rfl,((((Tk.mk hn K0).new (Nat.le_refl _) hlt.2 _).new (Nat.le_refl _) hlt.2 _).new (Nat.le_refl _) hlt.2 _).new (Nat.le_refl _) hlt.2 _⟩
set_option maxHeartbeats 1000000 in
theorem name_yes (b m : Nat) (T l : List Tok) (t : Tok) (W : World) (h : PS b m T (t :: l) W) (hc : cls t = 51) : Calls Tryz.prog 97 #[.pointer (some ⟨b,0,none⟩)] W fun e w'=>e = .returned (.agg #[.int .i64 (6),.string ⟨(t.t).toArray⟩,.int .i64 (0),.int .i64 (t.p),.slice none 0 0]) ∧ Tk b m T l W w':=by
  have hk : t.k = 1:=cls_kind t 51 hc (by omega)
  have hlt:=h.lt
  have hbW : W.heap.size ≠ b:=by omega
  go_enter Tryz.func97,Tryz.ntmps97
  go_wp2_with (first | (go_at_call 33;refine (token_any b m T l t _ (h.alloc _)).mono ?_;rintro e w1 ⟨rfl,hb⟩;have h1:=(h.alloc _).below hb;have R1:=(Bx.new W 24 _).below hb;have K1:=((Ky.refl (fun k=>k = b) W).alloc _).trans (Ky.of_below hb)) | (go_at_call 95;refine (take_p b m T l t _ h1 (by omega)).mono ?_;rintro e w2 ⟨rfl,hT⟩;have R2:=R1.ky hT.ky hbW;obtain ⟨q0,q1,q2,q3,q4⟩:=R2.fiveA;obtain ⟨f0,f1,f2,f3,f4⟩:=R2.frozen5A))
  refine bodyPost_ret (v:=(.agg #[.int .i64 (6),.string ⟨(t.t).toArray⟩,.int .i64 (0),.int .i64 (t.p),.slice none 0 0])) (by simp [results,Tryz.results97,go_sem,q0,q1,q2,q3,q4]) rfl ?_
  exact ⟨rfl,((Tk.mk hT.ps (K1.trans hT.ky)).alloc _).five (Nat.le_refl _) hlt.2 _ _ _ _ _⟩
set_option maxHeartbeats 1000000 in
theorem name_no (b m : Nat) (T l : List Tok) (t : Tok) (W : World) (h : PS b m T (t :: l) W) (hc : cls t ≠ 51) : Calls Tryz.prog 97 #[.pointer (some ⟨b,0,none⟩)] W fun e w'=>e = refp t.p ∧ Below W.heap.size W w':=by
  have hk : ¬ t.k = 1:=fun e=>hc (cls_of_kind t 1 e (by simp))
  go_enter Tryz.func97,Tryz.ntmps97
  go_wp2_with (first | (go_at_call 33;refine (token_any b m T l t _ (h.alloc _)).mono ?_;rintro e w1 ⟨rfl,hb⟩;have h1:=(h.alloc _).below hb;have B1:=((Below.refl _ W).alloc (Nat.le_refl _) _).trans (hb.mono (by simp))) | (go_at_call 35;refine (at_any b m T l t _ h1).mono ?_;rintro e w2 ⟨rfl,hb2⟩) | (go_at_call 34;refine (refuse_p _ _).mono ?_;rintro e w3 ⟨he,hb3⟩;unfold refp at he;subst he))
  exact ⟨rfl,rfl,(B1.trans (hb2.mono B1.size)).trans (hb3.mono (Nat.le_trans B1.size hb2.size))⟩
set_option maxHeartbeats 1000000 in
theorem nameText_yes (b m : Nat) (T l : List Tok) (t : Tok) (W : World) (h : PS b m T (t :: l) W) (hc : cls t = 51) : Calls Tryz.prog 142 #[.pointer (some ⟨b,0,none⟩)] W fun e w'=>e = .returned (.agg #[.int .i64 (5),.string ⟨(t.t).toArray⟩,.int .i64 (0),.int .i64 (t.p),.slice none 0 0]) ∧ Tk b m T l W w':=by
  have hlt:=h.lt
  have hbW : W.heap.size ≠ b:=by omega
  go_enter Tryz.func142,Tryz.ntmps142
  go_wp2_with (go_at_call 97;refine (name_yes b m T l t _ (h.alloc _) hc).mono ?_;rintro e w2 ⟨rfl,hT⟩;have R2:=(Bx.new W 24 _).ky hT.ky hbW;obtain ⟨q0,q1,q2,q3,q4⟩:=R2.fiveA;obtain ⟨f0,f1,f2,f3,f4⟩:=R2.frozen5A)
  refine bodyPost_ret (v:=(.agg #[.int .i64 (5),.string ⟨(t.t).toArray⟩,.int .i64 (0),.int .i64 (t.p),.slice none 0 0])) (by simp [results,Tryz.results142,go_sem,q0,q1,q2,q3,q4]) rfl ?_
  exact ⟨rfl,((Tk.mk hT.ps (((Ky.refl (fun k=>k = b) W).alloc _).trans hT.ky)).alloc _).five (Nat.le_refl _) hlt.2 _ _ _ _ _⟩
set_option maxHeartbeats 1000000 in
theorem nameText_no (b m : Nat) (T l : List Tok) (t : Tok) (W : World) (h : PS b m T (t :: l) W) (hc : cls t ≠ 51) : Calls Tryz.prog 142 #[.pointer (some ⟨b,0,none⟩)] W fun e w'=>e = refp t.p ∧ Below W.heap.size W w':=by
  go_enter Tryz.func142,Tryz.ntmps142
  go_wp2_with (go_at_call 97;refine (name_no b m T l t _ (h.alloc _) hc).mono ?_;rintro e w2 ⟨he,hb2⟩;unfold refp at he;subst he)
  exact ⟨rfl,rfl,((Below.refl _ W).alloc (Nat.le_refl _) _).trans (hb2.mono (by simp))⟩
end Go.Proofs.YtlgkfhipobdcfaaGreatDoor


namespace Go.Proofs.YtlgkfhipobdcfaaGreatDoor
open Go.RowKit
set_option maxRecDepth 20000
theorem rd_ne {t : Tok} {w : List UInt8} (hv : rd t w = true) : cls t ≠ 56:=by
  intro e
  have h6 : t.k = 6:=cls_kind t 56 e (by omega)
  simp [rd,h6] at hv
section
variable (b m : Nat) (T l : List Tok) (t : Tok) (W : World) (w : List UInt8) (h : PS b m T (t :: l) W)
include h
theorem is_v {v : Bool} (hv : rd t w = v) : Calls Tryz.prog 63 #[.pointer (some ⟨b,0,none⟩),.string ⟨w.toArray⟩] W fun e w'=>e = .returned (.bool v) ∧ Below W.heap.size W w':=by
  rw [← hv];exact is_any b m T l t w W h
set_option maxHeartbeats 1000000 in
theorem accept_t (hv : rd t w = true) : Calls Tryz.prog 62 #[.pointer (some ⟨b,0,none⟩),.string ⟨w.toArray⟩] W fun e w'=>e = .returned (.bool true) ∧ Tk b m T l W w':=by
  have hc:=rd_ne hv
  have C:=is_v b m T l t W w h hv
  go_enter Tryz.func62,Tryz.ntmps62
  go_wp2_with (go_at_call 63;refine C.mono ?_;rintro e w1 ⟨rfl,hb⟩;have hp1:=h.below hb;obtain ⟨g,cap,i,r1,r2,r3,r4,-⟩:=hp1.reads;have r5:=hp1.fz;have hn:=hp1.next hc r2)
  go_ret
  exact ⟨rfl,hn,(Ky.of_below hb).setP _⟩
set_option maxHeartbeats 1000000 in
theorem accept_f (hv : rd t w = false) : Calls Tryz.prog 62 #[.pointer (some ⟨b,0,none⟩),.string ⟨w.toArray⟩] W fun e w'=>e = .returned (.bool false) ∧ Below W.heap.size W w':=by
  have C:=is_v b m T l t W w h hv
  go_enter Tryz.func62,Tryz.ntmps62
  go_wp2_with (go_at_call 63;refine C.mono ?_;rintro e w1 ⟨rfl,hb⟩)
  go_ret
  exact ⟨rfl,hb⟩
set_option maxHeartbeats 1000000 in
theorem expect_t (hv : rd t w = true) : Calls Tryz.prog 98 #[.pointer (some ⟨b,0,none⟩),.string ⟨w.toArray⟩] W fun e w'=>e = .returned (.tuple #[]) ∧ Tk b m T l W w':=by
  have C:=accept_t b m T l t W w h hv
  go_enter Tryz.func98,Tryz.ntmps98
  go_wp2_with (go_at_call 62;refine C.mono ?_;rintro e w1 ⟨rfl,hT⟩)
  go_end0
  exact ⟨rfl,hT⟩
set_option maxHeartbeats 1000000 in
theorem expect_f (hv : rd t w = false) : Calls Tryz.prog 98 #[.pointer (some ⟨b,0,none⟩),.string ⟨w.toArray⟩] W fun e w'=>e = refp t.p ∧ Below W.heap.size W w':=by
  have C:=accept_f b m T l t W w h hv
  go_enter Tryz.func98,Tryz.ntmps98
  go_wp2_with (first | (go_at_call 62;refine C.mono ?_;rintro e w1 ⟨rfl,hb⟩) | (go_at_call 35;refine (at_any b m T l t _ (h.below hb)).mono ?_;rintro e w2 ⟨rfl,hb2⟩) | (go_at_call 34;refine (refuse_p _ _).mono ?_;rintro e w3 ⟨he,hb3⟩;unfold refp at he;subst he))
  exact ⟨rfl,rfl,(hb.trans (hb2.mono hb.size)).trans (hb3.mono (Nat.le_trans hb.size hb2.size))⟩
end
theorem closes_any (b m : Nat) (T l : List Tok) (t : Tok) (W : World) (h : PS b m T (t :: l) W) : Calls Tryz.prog 66 #[.pointer (some ⟨b,0,none⟩)] W fun e w'=>e = .returned (.bool (closes (t :: l))) ∧ Below W.heap.size W w':=by
  have Ct:=token_any b m T l t W h
  by_cases h56 : cls t = 56
  · have hk : t.k = 6:=cls_kind t 56 h56 (by omega)
    have e1 : closes (t :: l) = true:=by simp [closes,hc,h56]
    rw [e1]
    go_enter Tryz.func66,Tryz.ntmps66
    go_wp2_with (go_at_call 33;refine Ct.mono ?_;rintro e w1 ⟨rfl,hb⟩)
    go_ret
    exact ⟨rfl,hb⟩
  · have hk : ¬ t.k = 6:=fun e=>h56 (cls_of_kind t 6 e (by simp))
    by_cases h4 : cls t = 4
    · have wt4 : rd t [101,110,100] = true:=cls_rd (c:=4) (by omega) (by decide) (by decide)
      have e1 : closes (t :: l) = true:=by simp [closes,hc,h4]
      rw [e1]
      go_enter Tryz.func66,Tryz.ntmps66
      go_wp2_with (first | (go_at_call 33;refine Ct.mono ?_;rintro e w1 ⟨rfl,hb⟩) | (go_at_call 63;refine (is_v b m T l t _ _ (h.below hb) (by assumption)).mono ?_;rintro e w2 ⟨rfl,hb2⟩))
      go_ret
      exact ⟨rfl,hb.trans (hb2.mono hb.size)⟩
    · have wt4 : rd t [101,110,100] = false:=cls_nrd (c:=4) (by omega) (by decide) (by decide)
      by_cases h5 : cls t = 5
      · have wt5 : rd t [101,108,115,101] = true:=cls_rd (c:=5) (by omega) (by decide) (by decide)
        have e1 : closes (t :: l) = true:=by simp [closes,hc,h5]
        rw [e1]
        go_enter Tryz.func66,Tryz.ntmps66
        go_wp2_with (first | (go_at_call 33;refine Ct.mono ?_;rintro e w1 ⟨rfl,hb⟩;have hp:=h.below hb;have B:=hb) | (go_at_call 63;refine (is_v b m T l t _ _ hp (by assumption)).mono ?_;rintro e w2 ⟨rfl,hb2⟩;replace hp:=hp.below hb2;replace B:=B.trans (hb2.mono B.size)))
        go_ret
        exact ⟨rfl,B⟩
      · have wt5 : rd t [101,108,115,101] = false:=cls_nrd (c:=5) (by omega) (by decide) (by decide)
        by_cases h6 : cls t = 6
        · have wt6 : rd t [101,108,115,101,105,102] = true:=cls_rd (c:=6) (by omega) (by decide) (by decide)
          have e1 : closes (t :: l) = true:=by simp [closes,hc,h6]
          rw [e1]
          go_enter Tryz.func66,Tryz.ntmps66
          go_wp2_with (first | (go_at_call 33;refine Ct.mono ?_;rintro e w1 ⟨rfl,hb⟩;have hp:=h.below hb;have B:=hb) | (go_at_call 63;refine (is_v b m T l t _ _ hp (by assumption)).mono ?_;rintro e w2 ⟨rfl,hb2⟩;replace hp:=hp.below hb2;replace B:=B.trans (hb2.mono B.size)))
          go_ret
          exact ⟨rfl,B⟩
        · have wt6 : rd t [101,108,115,101,105,102] = false:=cls_nrd (c:=6) (by omega) (by decide) (by decide)
          have e1 : closes (t :: l) = false:=by simp [closes,hc,h56,h4,h5,h6]
          rw [e1]
          go_enter Tryz.func66,Tryz.ntmps66
          go_wp2_with (first | (go_at_call 33;refine Ct.mono ?_;rintro e w1 ⟨rfl,hb⟩;have hp:=h.below hb;have B:=hb) | (go_at_call 63;refine (is_v b m T l t _ _ hp (by assumption)).mono ?_;rintro e w2 ⟨rfl,hb2⟩;replace hp:=hp.below hb2;replace B:=B.trans (hb2.mono B.size)))
          go_ret
          exact ⟨by simp [hk],B⟩
theorem binding_not (t : Tok) (W : World) (h2 : ¬ t.k = 2) (h5 : ¬ t.k = 5) : Calls Tryz.prog 140 #[(.agg #[.int .i64 t.k,.string ⟨t.t.toArray⟩,.int .i64 t.v,.int .i64 t.p])] W fun e w'=>e = .returned (.int .i64 0) ∧ Below W.heap.size W w':=by
  have n2 : (t.k != 2) = true:=by simpa using h2
  have n5 : (t.k != 5) = true:=by simpa using h5
  go_enter Tryz.func140,Tryz.ntmps140
  go_wp2
  go_ret
  exact ⟨rfl,(Below.refl _ _).alloc (Nat.le_refl _) _⟩
set_option maxHeartbeats 2000000 in
theorem binding_word (t : Tok) (W : World) (c : Nat) (hk : t.k = 2 ∨ t.k = 5) (ht : t.t = wds c) (hc : c = 30 ∨ c = 31 ∨ c = 32 ∨ c = 33 ∨ c = 34 ∨ c = 35 ∨ c = 36 ∨ c = 37 ∨ c = 38 ∨ c = 39 ∨ c = 26 ∨ c = 40 ∨ c = 41 ∨ c = 42) : Calls Tryz.prog 140 #[(.agg #[.int .i64 t.k,.string ⟨t.t.toArray⟩,.int .i64 t.v,.int .i64 t.p])] W fun e w'=>e = .returned (.int .i64 (bnd c)) ∧ Below W.heap.size W w':=by
  obtain ⟨k,tt,v,p⟩:=t
  simp only at hk ht ⊢
  subst ht
  rcases hk with rfl | rfl
  all_goals
    rcases hc with rfl | rfl | rfl | rfl | rfl | rfl | rfl | rfl | rfl | rfl | rfl | rfl | rfl | rfl
    all_goals
      simp only [wds,bnd]
      go_enter Tryz.func140,Tryz.ntmps140
      go_wp2
      go_ret
      exact ⟨rfl,(Below.refl _ _).alloc (Nat.le_refl _) _⟩
set_option maxHeartbeats 2000000 in
theorem binding_other (t : Tok) (W : World) (hk : t.k = 2 ∨ t.k = 5) (hb : bnd (code t.t) = 0) : Calls Tryz.prog 140 #[(.agg #[.int .i64 t.k,.string ⟨t.t.toArray⟩,.int .i64 t.v,.int .i64 t.p])] W fun e w'=>e = .returned (.int .i64 0) ∧ Below W.heap.size W w':=by
  have ne : ∀ c,(1 ≤ c ∧ c ≤ 42 ∧ bnd c ≠ 0) → (t.t == wds c) = false:=by
    intro c hc
    cases he : t.t == wds c
    · rfl
    · have : t.t = wds c:=by simpa using he
      rw [this,code_wds c hc.1 hc.2.1] at hb
      exact absurd hb hc.2.2
  have o30 : (t.t == [111,114]) = false:=ne 30 (by decide)
  have o31 : (t.t == [97,110,100]) = false:=ne 31 (by decide)
  have o32 : (t.t == [60]) = false:=ne 32 (by decide)
  have o33 : (t.t == [62]) = false:=ne 33 (by decide)
  have o34 : (t.t == [60,61]) = false:=ne 34 (by decide)
  have o35 : (t.t == [62,61]) = false:=ne 35 (by decide)
  have o36 : (t.t == [126,61]) = false:=ne 36 (by decide)
  have o37 : (t.t == [61,61]) = false:=ne 37 (by decide)
  have o38 : (t.t == [46,46]) = false:=ne 38 (by decide)
  have o39 : (t.t == [43]) = false:=ne 39 (by decide)
  have o26 : (t.t == [45]) = false:=ne 26 (by decide)
  have o40 : (t.t == [42]) = false:=ne 40 (by decide)
  have o41 : (t.t == [47,47]) = false:=ne 41 (by decide)
  have o42 : (t.t == [37]) = false:=ne 42 (by decide)
  clear ne
  rcases hk with hk | hk
  · have n2 : (t.k != 2) = false:=by simp [hk]
    go_enter Tryz.func140,Tryz.ntmps140
    go_wp2
    go_ret
    exact ⟨rfl,(Below.refl _ _).alloc (Nat.le_refl _) _⟩
  · have n2 : (t.k != 2) = true:=by simp [hk]
    have n5 : (t.k != 5) = false:=by simp [hk]
    go_enter Tryz.func140,Tryz.ntmps140
    go_wp2
    go_ret
    exact ⟨rfl,(Below.refl _ _).alloc (Nat.le_refl _) _⟩
theorem binding_any (t : Tok) (W : World) : Calls Tryz.prog 140 #[(.agg #[.int .i64 t.k,.string ⟨t.t.toArray⟩,.int .i64 t.v,.int .i64 t.p])] W fun e w'=>e = .returned (.int .i64 (bnd (cls t))) ∧ Below W.heap.size W w':=by
  by_cases hk : t.k = 2 ∨ t.k = 5
  · have e1 : cls t = code t.t:=by unfold cls;rw [if_pos hk]
    rw [e1]
    by_cases hb : bnd (code t.t) = 0
    · rw [hb];exact binding_other t W hk hb
    · have h0 : code t.t ≠ 0:=fun e=>hb (by rw [e];rfl)
      obtain ⟨h1,h2⟩:=code_inv t.t _ rfl h0
      refine binding_word t W (code t.t) hk h1.symm ?_
      unfold bnd at hb
      split at hb
      · omega
      · split at hb
        · omega
        · split at hb
          · omega
          · split at hb
            · omega
            · split at hb
              · omega
              · split at hb
                · omega
                · exact absurd rfl hb
  · have h2 : ¬ t.k = 2:=fun e=>hk (.inl e)
    have h5 : ¬ t.k = 5:=fun e=>hk (.inr e)
    have e1 : bnd (cls t) = 0:=by
      unfold cls
      rw [if_neg hk]
      split
      · rfl
      · split
        · rfl
        · split
          · rfl
          · split <;> rfl
    rw [e1]
    exact binding_not t W h2 h5
theorem target_yes (k : Int) (t : List UInt8) (n p : Int) (a : Option Addr) (sl sc : Nat) (W : World) (hk : k = 6 ∨ k = 7) : Calls Tryz.prog 131 #[(.agg #[.int .i64 (k),.string ⟨(t).toArray⟩,.int .i64 (n),.int .i64 (p),.slice a sl sc])] W fun e w'=>e = .returned (.agg #[.int .i64 (k),.string ⟨(t).toArray⟩,.int .i64 (n),.int .i64 (p),.slice a sl sc]) ∧ Below W.heap.size W w':=by
  rcases hk with rfl | rfl
  all_goals
    go_enter Tryz.func131,Tryz.ntmps131
    go_wp2
    refine bodyPost_ret (v:=.agg #[_,.string ⟨t.toArray⟩,.int .i64 n,.int .i64 p,.slice a sl sc]) (by simp [results,Tryz.results131,go_sem];rfl) rfl ?_
    exact ⟨rfl,((Below.refl _ W).alloc (Nat.le_refl _) _).alloc (by simp) _⟩
theorem target_no (k : Int) (t : List UInt8) (n p : Int) (a : Option Addr) (sl sc : Nat) (W : World) (h6 : ¬ k = 6) (h7 : ¬ k = 7) : Calls Tryz.prog 131 #[(.agg #[.int .i64 (k),.string ⟨(t).toArray⟩,.int .i64 (n),.int .i64 (p),.slice a sl sc])] W fun e w'=>e = refp p ∧ Below W.heap.size W w':=by
  have n6 : (k != 6) = true:=by simpa using h6
  have n7 : (k != 7) = true:=by simpa using h7
  go_enter Tryz.func131,Tryz.ntmps131
  go_wp2_with (go_at_call 34;refine (refuse_p _ _).mono ?_;rintro e w3 ⟨he,hb3⟩;unfold refp at he;subst he)
  exact ⟨rfl,rfl,(((Below.refl _ W).alloc (Nat.le_refl _) _).alloc (by simp) _).trans (hb3.mono (by simp;omega))⟩
end Go.Proofs.YtlgkfhipobdcfaaGreatDoor

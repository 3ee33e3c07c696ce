import Derived.Test.YtlgkfhipobdcfaaGreatDoorCg31
import Derived.Test.YtlgkfhipobdcfaaGreatDoorCg10
import Derived.Test.YtlgkfhipobdcfaaGreatDoorCg12
namespace Go.Proofs.YtlgkfhipobdcfaaGreatDoor
open Go.RowKit
set_option maxRecDepth 20000
def bdF (f a : Int) : Int:=if f < 0 then a else f
set_option maxHeartbeats 2000000 in
theorem rbad_any (b m : Nat) (T l : List Tok) (t : Tok) (f a : Int) (W : World) (h : RS b m T (t :: l) f W) : Calls Tryz.prog 25 #[.pointer (some ⟨b,0,none⟩),.int .i64 a] W fun e w'=>e = .returned (.tuple #[]) ∧ Tr b m T (lst1 T) (bdF f a) W w':=by
  obtain ⟨g,cap,i,-,-,-,h3,h4,-,-,-,-,g1,g2,-⟩:=h.readsA
  have hf0:=h.fl
  have z1:=h.ps.fz
  have z2:=h.fz
  have hsm:=h.ps.small
  have wi : IntKind.i64.wrap ((T.length : Int) - 1) = (T.length : Int) - 1:=by rw [IntKind.wrap_i64];omega
  by_cases hf' : f < 0
  · have e1 : bdF f a = a:=if_pos hf'
    rw [e1]
    have F1:=(h.fault a).seek
    have K1 : Ky (fun k=>k = b) W ((W.setCell ⟨b,2,none⟩ (.int .i64 a)).setCell ⟨b,1,none⟩ (.int .i64 ((T.length : Int) - 1))):=((Ky.refl _ _).setP _).setP _
    go_enter Tryz.func25,Tryz.ntmps25
    go_wp2
    go_end0
    exact ⟨rfl,F1,K1⟩
  · have e1 : bdF f a = f:=if_neg hf'
    rw [e1]
    have F1:=h.seek
    have K1 : Ky (fun k=>k = b) W (W.setCell ⟨b,1,none⟩ (.int .i64 ((T.length : Int) - 1))):=(Ky.refl _ _).setP _
    go_enter Tryz.func25,Tryz.ntmps25
    go_wp2
    go_end0
    exact ⟨rfl,F1,K1⟩
theorem see_cls {f : Int} {t : Tok} {w : List UInt8} (h : seeB f t w = true) : f < 0 ∧ (t.k = 2 ∨ t.k = 5) ∧ t.t = w:=by
  unfold seeB rd at h
  simp at h
  exact ⟨h.1,h.2.1,h.2.2⟩
theorem see_ne56 {f : Int} {t : Tok} {w : List UInt8} (h : seeB f t w = true) : cls t ≠ 56:=by
  obtain ⟨_,hk,_⟩:=see_cls h
  unfold cls
  rw [if_pos hk]
  have:=code_le t.t
  omega
set_option maxHeartbeats 2000000 in
theorem rtake_yes (b m : Nat) (T l : List Tok) (t : Tok) (f : Int) (w : List UInt8) (W : World) (h : RS b m T (t :: l) f W) (hs : seeB f t w = true) : Calls Tryz.prog 45 #[.pointer (some ⟨b,0,none⟩),.string ⟨w.toArray⟩] W fun e w'=>e = .returned (.bool true) ∧ Tr b m T l f W w':=by
  have C:=rsee_any b m T l t f w W h
  rw [hs] at C
  go_enter Tryz.func45,Tryz.ntmps45
  go_wp2_with fail
  refine C.mono ?_;rintro e w1 ⟨rfl,hb⟩
  have h':=h.below hb
  obtain ⟨g,cap,i,-,-,-,h3,h4,-,-,-,-,g1,g2,-⟩:=h'.readsA
  have z1:=h'.ps.fz
  have wi : IntKind.i64.wrap ((i : Int) + 1) = (i : Int) + 1:=by rw [IntKind.wrap_i64];omega
  have F1:=h'.next (see_ne56 hs) g2
  have K1 : Ky (fun k=>k = b) W (w1.setCell ⟨b,1,none⟩ (.int .i64 ((i : Int) + 1))):=(Ky.of_below hb).setP _
  clear h' C
  go_wp2
  go_ret
  exact ⟨rfl,F1,K1⟩
set_option maxHeartbeats 2000000 in
theorem rtake_no (b m : Nat) (T l : List Tok) (t : Tok) (f : Int) (w : List UInt8) (W : World) (h : RS b m T (t :: l) f W) (hs : seeB f t w = false) : Calls Tryz.prog 45 #[.pointer (some ⟨b,0,none⟩),.string ⟨w.toArray⟩] W fun e w'=>e = .returned (.bool false) ∧ Below W.heap.size W w':=by
  have C:=rsee_any b m T l t f w W h
  rw [hs] at C
  go_enter Tryz.func45,Tryz.ntmps45
  go_wp2_with (go_at_call 46;refine C.mono ?_;rintro e w1 ⟨rfl,hb⟩)
  go_ret
  exact ⟨rfl,hb⟩
structure Sx where
  l : List Tok
  f : Int
def Sx.t (s : Sx) : Tok:=s.l.headD ⟨0,[],0,0⟩
def Sx.see (s : Sx) (w : List UInt8) : Bool:=seeB s.f s.t w
def Sx.tl (s : Sx) : Sx:=⟨s.l.tail,s.f⟩
def Sx.bad (T : List Tok) (s : Sx) (a : Int) : Sx:=⟨lst1 T,bdF s.f a⟩
def Sx.need (T : List Tok) (s : Sx) (w : List UInt8) : Sx:=if s.see w then s.tl else s.bad T s.t.p
def Sx.name (T : List Tok) (s : Sx) : Sx:=if s.f < 0 ∧ s.t.k = 1 then s.tl else s.bad T s.t.p
def Sx.nm (s : Sx) (q : Int) : F:=if s.f < 0 ∧ s.t.k = 1 then one q s.t.t 0 s.t.p .nil else noF
def Sx.nd (s : Sx) : Bool:=decide (0 ≤ s.f) || decide (s.t.k = 6) || s.see [101,110,100] || s.see [101,108,115,101] || s.see [101,108,115,101,105,102]
abbrev RT (b m : Nat) (T : List Tok) (s : Sx) (W : World) : Prop:=RS b m T s.l s.f W
abbrev Tt (b m : Nat) (T : List Tok) (s : Sx) (W W' : World) : Prop:=Tr b m T s.l s.f W W'
theorem RT.cons {b m : Nat} {T : List Tok} {s : Sx} {W : World} (h : RT b m T s W) : RS b m T (s.t :: s.l.tail) s.f W:=by
  obtain ⟨t,l',e⟩:=h.ps.cons
  have : s.l = s.t :: s.l.tail:=by unfold Sx.t;rw [e];rfl
  rw [← this];exact h
theorem see_any (b m : Nat) (T : List Tok) (s : Sx) (w : List UInt8) (W : World) (h : RT b m T s W) : Calls Tryz.prog 46 #[.pointer (some ⟨b,0,none⟩),.string ⟨w.toArray⟩] W fun e w'=>e = .returned (.bool (s.see w)) ∧ Below W.heap.size W w':=rsee_any b m T _ s.t s.f w W h.cons
theorem at_s (b m : Nat) (T : List Tok) (s : Sx) (W : World) (h : RT b m T s W) : Calls Tryz.prog 26 #[.pointer (some ⟨b,0,none⟩)] W fun e w'=>e = .returned (.int .i64 s.t.p) ∧ Below W.heap.size W w':=rat_any b m T _ s.t s.f W h.cons
theorem bad_s (b m : Nat) (T : List Tok) (s : Sx) (a : Int) (W : World) (h : RT b m T s W) : Calls Tryz.prog 25 #[.pointer (some ⟨b,0,none⟩),.int .i64 a] W fun e w'=>e = .returned (.tuple #[]) ∧ Tt b m T (s.bad T a) W w':=rbad_any b m T _ s.t s.f a W h.cons
def Sx.tk (s : Sx) (w : List UInt8) : Sx:=if s.see w then s.tl else s
theorem take_s (b m : Nat) (T : List Tok) (s : Sx) (w : List UInt8) (W : World) (h : RT b m T s W) : Calls Tryz.prog 45 #[.pointer (some ⟨b,0,none⟩),.string ⟨w.toArray⟩] W fun e w'=>e = .returned (.bool (s.see w)) ∧ Tt b m T (s.tk w) W w':=by
  cases hs : s.see w
  · refine (rtake_no b m T _ s.t s.f w W h.cons hs).mono fun e w' ⟨h1,h2⟩=>⟨h1,?_⟩
    have : s.tk w = s:=by unfold Sx.tk;rw [hs];rfl
    rw [this]
    exact ⟨RS.below h h2,.of_below h2⟩
  · refine (rtake_yes b m T _ s.t s.f w W h.cons hs).mono fun e w' ⟨h1,h2⟩=>⟨h1,?_⟩
    have : s.tk w = s.tl:=by unfold Sx.tk;rw [hs];rfl
    rw [this]
    exact h2
set_option maxHeartbeats 2000000 in
theorem need_s (b m : Nat) (T : List Tok) (s : Sx) (w : List UInt8) (W : World) (h : RT b m T s W) : Calls Tryz.prog 49 #[.pointer (some ⟨b,0,none⟩),.string ⟨w.toArray⟩] W fun e w'=>e = .returned (.tuple #[]) ∧ Tt b m T (s.need T w) W w':=by
  have C:=take_s b m T s w W h
  cases hs : s.see w
  · have e1 : s.need T w = s.bad T s.t.p:=by unfold Sx.need;rw [hs];rfl
    have e2 : s.tk w = s:=by unfold Sx.tk;rw [hs];rfl
    rw [hs,e2] at C
    rw [e1]
    go_enter Tryz.func49,Tryz.ntmps49
    go_wp2_with (first | (go_at_call 45;refine C.mono ?_;rintro e w1 ⟨rfl,hT⟩;have CA:=at_s b m T s w1 hT.rs) | (go_at_call 26;refine CA.mono ?_;rintro e w2 ⟨rfl,hb2⟩;have CB:=bad_s b m T s s.t.p w2 (RS.below hT.rs hb2)) | (go_at_call 25;refine CB.mono ?_;rintro e w3 ⟨rfl,hT3⟩))
    go_end0
    exact ⟨rfl,(hT.below hb2).trans hT3⟩
  · have e1 : s.need T w = s.tl:=by unfold Sx.need;rw [hs];rfl
    have e2 : s.tk w = s.tl:=by unfold Sx.tk;rw [hs];rfl
    rw [hs,e2] at C
    rw [e1]
    go_enter Tryz.func49,Tryz.ntmps49
    go_wp2_with (go_at_call 45;refine C.mono ?_;rintro e w1 ⟨rfl,hT⟩)
    go_end0
    exact ⟨rfl,hT⟩
theorem Tr.five {b m X : Nat} {T l : List Tok} {f : Int} {W w : World} (h : Tr b m T l f W w) (hX : W.heap.size ≤ X) (hm : m ≤ W.heap.size) (u0 u1 u2 u3 u4 : Value) : Tr b m T l f W (((((w.setCell ⟨X,0,none⟩ u0).setCell ⟨X,1,none⟩ u1).setCell ⟨X,2,none⟩ u2).setCell ⟨X,3,none⟩ u3).setCell ⟨X,4,none⟩ u4) :=
  ((((h.new hX hm u0).new hX hm u1).new hX hm u2).new hX hm u3).new hX hm u4
set_option maxHeartbeats 4000000 in
theorem name_s (b m : Nat) (T : List Tok) (s : Sx) (q : Int) (W : World) (h : RT b m T s W) : Calls Tryz.prog 48 #[.pointer (some ⟨b,0,none⟩),.int .i64 q] W fun e w'=>(∃ k t p,s.nm q = one k t 0 p .nil ∧ e = .returned (.agg #[.int .i64 (k),.string ⟨(t).toArray⟩,.int .i64 (0),.int .i64 (p),.slice none 0 0])) ∧ Tt b m T (s.name T) W w':=by
  have hm:=h.ps.lt
  obtain ⟨A,hA⟩ : ∃ A,W.alloc (.cells #[.int .i64 0,.string ⟨#[]⟩,.int .i64 0,.int .i64 0,.slice none 0 0] 32) = A:=⟨_,rfl⟩
  have BA:=Bx.new W 32 #[.int .i64 0,.string ⟨#[]⟩,.int .i64 0,.int .i64 0,.slice none 0 0]
  have KA : Below W.heap.size W (W.alloc (.cells #[.int .i64 0,.string ⟨#[]⟩,.int .i64 0,.int .i64 0,.slice none 0 0] 32)):=(Below.refl _ W).alloc (Nat.le_refl _) _
  have hAs : (W.alloc (.cells #[.int .i64 0,.string ⟨#[]⟩,.int .i64 0,.int .i64 0,.slice none 0 0] 32)).heap.size = W.heap.size + 1:=by simp
  rw [hA] at BA KA hAs
  have hR : RT b m T s A:=RS.below h KA
  obtain ⟨g,cap,i,h1,h2,hf,h3,h4,c0,c1,c2,c3,g1,g2,d0,d1,d2,d3⟩:=(RT.cons hR).readsA
  generalize hst : s.t = t at *
  obtain ⟨tk,tt,tv,tp⟩:=t
  simp only at c0 c1 c2 c3 d0 d1 d2 d3
  obtain ⟨V,hV⟩ : ∃ V,A.alloc (.cells #[.int .i64 tk,.string ⟨tt.toArray⟩,.int .i64 tv,.int .i64 tp] 63) = V:=⟨_,rfl⟩
  have B:=Bx.new A 63 #[.int .i64 tk,.string ⟨tt.toArray⟩,.int .i64 tv,.int .i64 tp]
  have K : Below A.heap.size A (A.alloc (.cells #[.int .i64 tk,.string ⟨tt.toArray⟩,.int .i64 tv,.int .i64 tp] 63)):=(Below.refl _ _).alloc (Nat.le_refl _) _
  have hfV:=hf (.cells #[.int .i64 tk,.string ⟨tt.toArray⟩,.int .i64 tv,.int .i64 tp] 63)
  have BAV:=BA.alloc (.cells #[.int .i64 tk,.string ⟨tt.toArray⟩,.int .i64 tv,.int .i64 tp] 63)
  rw [hV] at B K hfV BAV
  rw [hAs] at B
  obtain ⟨e0,e1,e2,e3⟩:=B.four
  obtain ⟨q0,q1,q2,q3,q4⟩:=BAV.five
  obtain ⟨l0,l1,l2,l3,l4⟩:=BAV.frozen5
  have hRV : RT b m T s V:=RS.below hR K
  obtain ⟨-,-,i',-,-,-,-,hi',-,-,-,-,-,g2',-⟩:=(RT.cons hRV).readsA
  have hKV : Below W.heap.size W V:=KA.trans (K.mono KA.size)
  have hbW : W.heap.size ≠ b:=by omega
  have HRV : Hid (RT b m T s V):=hRV
  have HBA : Hid (Bx W.heap.size 32 #[.int .i64 0,.string ⟨#[]⟩,.int .i64 0,.int .i64 0,.slice none 0 0] V):=BAV
  have HKV : Hid (Below W.heap.size W V):=hKV
  by_cases hg : s.f < 0 ∧ tk = 1
  · obtain ⟨hf',rfl⟩:=hg
    have e5 : s.name T = s.tl:=by unfold Sx.name;rw [hst];exact if_pos ⟨hf',rfl⟩
    have e6 : s.nm q = one q tt 0 tp .nil:=by unfold Sx.nm;rw [hst];exact if_pos ⟨hf',rfl⟩
    have hn : ¬ 0 ≤ s.f:=by omega
    have wi : IntKind.i64.wrap ((i' : Int) + 1) = (i' : Int) + 1:=by rw [IntKind.wrap_i64];omega
    have z1:=hRV.ps.fz
    rw [e5,e6]
    clear hR hRV BAV hKV BA KA B K
    go_enter Tryz.func48,Tryz.ntmps48
    go_wp2
    go_region
    all_goals
      go_wp2
      have N1 : Tr b m T s.tl.l s.tl.f W (V.setCell ⟨b,1,none⟩ (.int .i64 ((i' : Int) + 1))):=⟨(RT.cons HRV.out).next (by rw [hst,cls_of_kind _ 1 rfl (by decide)];decide) g2',(Ky.of_below HKV.out).setP _⟩
      have D1:=(HBA.out.set (b:=b) (o:=1) hbW (.int .i64 ((i' : Int) + 1))).five_put (.int .i64 q) (.string ⟨tt.toArray⟩) (.int .i64 0) (.int .i64 tp) (.slice none 0 0)
      obtain ⟨y0,y1,y2,y3,y4⟩:=D1.five
      refine bodyPost_ret (v:=(.agg #[.int .i64 (q),.string ⟨(tt).toArray⟩,.int .i64 (0),.int .i64 (tp),.slice none 0 0])) (by simp [results,Tryz.results48,go_sem,y0,y1,y2,y3,y4]) rfl ?_
      exact ⟨⟨q,tt,tp,rfl,rfl⟩,(N1.five (Nat.le_refl _) hm.2 _ _ _ _ _).drew⟩
  · have e5 : s.name T = s.bad T tp:=by unfold Sx.name;rw [hst];exact if_neg hg
    have e6 : s.nm q = noF:=by unfold Sx.nm;rw [hst];exact if_neg hg
    rw [e5,e6]
    have CB:=bad_s b m T s tp V.drew (RS.drew hRV)
    clear hR hRV BAV hKV BA KA B K
    have hgd : ((decide (0 ≤ s.f)) || (tk != 1)) = true:=by
      by_cases h0 : 0 ≤ s.f
      · simp [h0]
      · have : ¬ tk = 1:=fun e=>hg ⟨by omega,e⟩
        simp [this]
    by_cases h0 : 0 ≤ s.f
    · go_enter Tryz.func48,Tryz.ntmps48
      go_wp2
      go_region
      all_goals
        go_wp2_with (go_at_call 25;refine CB.mono ?_;rintro e w3 ⟨rfl,hT3⟩;have D0:=(HBA.out.drew).ky hT3.ky hbW;obtain ⟨y0,y1,y2,y3,y4⟩:=D0.five;obtain ⟨m0,m1,m2,m3,m4⟩:=D0.frozen5)
        have D1:=D0.five_put (.int .i64 0) (.string ⟨#[]⟩) (.int .i64 0) (.int .i64 0) (.slice none 0 0)
        obtain ⟨x0,x1,x2,x3,x4⟩:=D1.five
        refine bodyPost_ret (v:=(.agg #[.int .i64 (0),.string ⟨#[]⟩,.int .i64 (0),.int .i64 (0),.slice none 0 0])) (by simp [results,Tryz.results48,go_sem,x0,x1,x2,x3,x4]) rfl ?_
        exact ⟨⟨0,[],0,rfl,rfl⟩,(Tr.mk hT3.rs ((Ky.of_below HKV.out).drew.trans hT3.ky)).five (Nat.le_refl _) hm.2 _ _ _ _ _⟩
    · have h0' : s.f < 0:=by omega
      have hk1 : ¬ tk = 1:=fun e=>hg ⟨h0',e⟩
      have hk1' : (tk == 1) = false:=by simpa using hk1
      go_enter Tryz.func48,Tryz.ntmps48
      go_wp2
      go_region
      all_goals
        go_wp2_with (go_at_call 25;refine CB.mono ?_;rintro e w3 ⟨rfl,hT3⟩;have D0:=(HBA.out.drew).ky hT3.ky hbW;obtain ⟨y0,y1,y2,y3,y4⟩:=D0.five;obtain ⟨m0,m1,m2,m3,m4⟩:=D0.frozen5)
        have D1:=D0.five_put (.int .i64 0) (.string ⟨#[]⟩) (.int .i64 0) (.int .i64 0) (.slice none 0 0)
        obtain ⟨x0,x1,x2,x3,x4⟩:=D1.five
        refine bodyPost_ret (v:=(.agg #[.int .i64 (0),.string ⟨#[]⟩,.int .i64 (0),.int .i64 (0),.slice none 0 0])) (by simp [results,Tryz.results48,go_sem,x0,x1,x2,x3,x4]) rfl ?_
        exact ⟨⟨0,[],0,rfl,rfl⟩,(Tr.mk hT3.rs ((Ky.of_below HKV.out).drew.trans hT3.ky)).five (Nat.le_refl _) hm.2 _ _ _ _ _⟩
end Go.Proofs.YtlgkfhipobdcfaaGreatDoor


namespace Go.Proofs.YtlgkfhipobdcfaaGreatDoor
open Go.RowKit
set_option maxRecDepth 20000
set_option maxHeartbeats 4000000 in
theorem end_s (b m : Nat) (T : List Tok) (s : Sx) (W : World) (h : RT b m T s W) : Calls Tryz.prog 44 #[.pointer (some ⟨b,0,none⟩)] W fun e w'=>e = .returned (.bool s.nd) ∧ Below W.heap.size W w':=by
  obtain ⟨Y,F,F1,F2⟩:=class_of W
  have HC : Hid (∃ x,W.drew = F x):=F2 _ (Below.refl _ _).drew
  have HF1 : Hid (∀ x,Below W.heap.size W (F x)):=F1
  have C : ∀ (x : Y) (w : List UInt8),Calls Tryz.prog 46 #[.pointer (some ⟨b,0,none⟩),.string ⟨w.toArray⟩] (F x) fun e w'=>e = .returned (.bool (s.see w)) ∧ ∃ y,w' = F y:=fun x w =>
    (see_any b m T s w (F x) (RS.below h (F1 x))).mono fun e w' ⟨he,hw⟩=>⟨he,F2 w' ((F1 x).trans (hw.mono (F1 x).size))⟩
  obtain ⟨g,cap,i,-,-,-,h3,h4,-,-,-,-,g1,g2,d0,-⟩:=(RT.cons h).readsA
  have hb : b < W.heap.size:=by have:=h.ps.lt;omega
  have hg : g < W.heap.size:=World.block_lt_of_cell? W ⟨g,i * 4,none⟩ d0
  have v0 : ∀ x,(F x).cell? ⟨b,0,none⟩ = some (.slice (some ⟨g,0,none⟩) T.length cap):=fun x=>((F1 x).cell hb).trans g1
  have v1 : ∀ x,(F x).cell? ⟨b,1,none⟩ = some (.int .i64 i):=fun x=>((F1 x).cell hb).trans g2
  have v2 : ∀ x,(F x).cell? ⟨b,2,none⟩ = some (.int .i64 s.f):=fun x=>((F1 x).cell hb).trans h.fl
  have v3 : ∀ x,(F x).cell? ⟨g,i * 4,none⟩ = some (.int .i64 s.t.k):=fun x=>((F1 x).cell hg).trans d0
  have hi : (i : Int) < (T.length : Int):=by omega
  haveI : Nonempty Y:=HC.out.elim fun x _=>⟨x⟩
  unfold Sx.nd
  generalize s.t.k = tk at *
  generalize s.f = sf at *
  generalize s.see = se at *
  clear h F1 F2 g1 g2 d0
  by_cases h0 : 0 ≤ sf
  · have b0 : decide (0 ≤ sf) = true:=decide_eq_true h0
    rw [b0,Bool.true_or,Bool.true_or,Bool.true_or,Bool.true_or]
    go_enter Tryz.func44,Tryz.ntmps44
    go_wp2_with fail
    refine wp_class (F:=F) (by kernel_rfl) (by kernel_rfl) HC.out ?_
    repeat (go_big_quiet_step (exact C _ _))
    refine wpQuiet_nil ?_
    intro _ hw'
    obtain ⟨x,rfl⟩:=hw'
    have K3 : Hid (Below W.heap.size W (F x)):=HF1.out x
    clear HF1 C v0 v1 v2 v3 HC
    generalize F x = w3 at *
    go_wp2
    go_ret
    exact ⟨rfl,K3.out⟩
  have b0 : decide (0 ≤ sf) = false:=decide_eq_false h0
  rw [b0,Bool.false_or]
  by_cases h6 : tk = 6
  · have b6 : decide (tk = 6) = true:=decide_eq_true h6
    rw [b6,Bool.true_or,Bool.true_or,Bool.true_or]
    subst h6
    go_enter Tryz.func44,Tryz.ntmps44
    go_wp2_with fail
    refine wp_class (F:=F) (by kernel_rfl) (by kernel_rfl) HC.out ?_
    repeat (go_big_quiet_step (exact C _ _))
    refine wpQuiet_nil ?_
    intro _ hw'
    obtain ⟨x,rfl⟩:=hw'
    have K3 : Hid (Below W.heap.size W (F x)):=HF1.out x
    clear HF1 C v0 v1 v2 v3 HC
    generalize F x = w3 at *
    go_wp2
    go_ret
    exact ⟨rfl,K3.out⟩
  have b6 : decide (tk = 6) = false:=decide_eq_false h6
  have b6' : (tk == 6) = false:=by simpa using h6
  rw [b6,Bool.false_or]
  cases s1 : se [101,110,100]
  case true =>
    rw [Bool.true_or,Bool.true_or]
    go_enter Tryz.func44,Tryz.ntmps44
    go_wp2_with fail
    refine wp_class (F:=F) (by kernel_rfl) (by kernel_rfl) HC.out ?_
    repeat (go_big_quiet_step (exact C _ _))
    refine wpQuiet_nil ?_
    intro _ hw'
    obtain ⟨x,rfl⟩:=hw'
    have K3 : Hid (Below W.heap.size W (F x)):=HF1.out x
    clear HF1 C v0 v1 v2 v3 HC
    generalize F x = w3 at *
    go_wp2
    go_ret
    exact ⟨rfl,K3.out⟩
  case false =>
    rw [Bool.false_or]
    cases s2 : se [101,108,115,101]
    case true =>
      rw [Bool.true_or]
      go_enter Tryz.func44,Tryz.ntmps44
      go_wp2_with fail
      refine wp_class (F:=F) (by kernel_rfl) (by kernel_rfl) HC.out ?_
      repeat (go_big_quiet_step (exact C _ _))
      refine wpQuiet_nil ?_
      intro _ hw'
      obtain ⟨x,rfl⟩:=hw'
      have K3 : Hid (Below W.heap.size W (F x)):=HF1.out x
      clear HF1 C v0 v1 v2 v3 HC
      generalize F x = w3 at *
      go_wp2
      go_ret
      exact ⟨rfl,K3.out⟩
    case false =>
      rw [Bool.false_or]
      go_enter Tryz.func44,Tryz.ntmps44
      go_wp2_with fail
      refine wp_class (F:=F) (by kernel_rfl) (by kernel_rfl) HC.out ?_
      repeat (go_big_quiet_step (exact C _ _))
      refine wpQuiet_nil ?_
      intro _ hw'
      obtain ⟨x,rfl⟩:=hw'
      have K3 : Hid (Below W.heap.size W (F x)):=HF1.out x
      clear HF1 C v0 v1 v2 v3 HC
      generalize F x = w3 at *
      go_wp2
      go_ret
      exact ⟨rfl,K3.out⟩
end Go.Proofs.YtlgkfhipobdcfaaGreatDoor


namespace Go.Proofs.YtlgkfhipobdcfaaGreatDoor
open Go.RowKit
def Sx.c (s : Sx) : Nat:=if s.f < 0 then cls s.t else 56
theorem see_c (s : Sx) (c : Nat) (h1 : 1 ≤ c) (h2 : c ≤ 42) : s.see (wds c) = decide (s.c = c):=by
  unfold Sx.see seeB Sx.c
  rw [rd_cls s.t c h1 h2]
  by_cases h : s.f < 0
  · simp [h]
  · rw [if_neg h,decide_eq_false h,Bool.false_and]
    exact (decide_eq_false (by omega)).symm
def Sx.needC (T : List Tok) (s : Sx) (c : Nat) : Sx:=if s.c = c then s.tl else s.bad T s.t.p
theorem need_c (T : List Tok) (s : Sx) (c : Nat) (h1 : 1 ≤ c) (h2 : c ≤ 42) : s.need T (wds c) = s.needC T c:=by
  unfold Sx.need Sx.needC
  rw [see_c s c h1 h2]
  by_cases h : s.c = c <;> simp [h]
theorem name_c (s : Sx) : (s.f < 0 ∧ s.t.k = 1) ↔ s.c = 51:=by
  unfold Sx.c
  constructor
  · intro h;rw [if_pos h.1,cls_of_kind s.t 1 h.2 (by decide)]
  · intro h
    split at h
    · next hf=>exact ⟨hf,by rw [cls_kind s.t 51 h (by decide)];rfl⟩
    · cases h
def Sx.cl (s : Sx) : Prop:=s.c = 56 ∨ s.c = 4 ∨ s.c = 5 ∨ s.c = 6
instance (s : Sx) : Decidable s.cl:=by unfold Sx.cl;infer_instance
theorem nd_c (s : Sx) : s.nd = decide s.cl:=by
  unfold Sx.nd Sx.cl
  rw [show ([101,110,100] : List UInt8) = wds 4 from rfl,show ([101,108,115,101] : List UInt8) = wds 5 from rfl,show ([101,108,115,101,105,102] : List UInt8) = wds 6 from rfl,see_c s 4 (by decide) (by decide),see_c s 5 (by decide) (by decide),see_c s 6 (by decide) (by decide)]
  have h56 : (decide (0 ≤ s.f) || decide (s.t.k = 6)) = decide (s.c = 56):=by
    unfold Sx.c
    by_cases hf : s.f < 0
    · rw [if_pos hf,decide_eq_false (by omega),Bool.false_or]
      by_cases hk : s.t.k = 6
      · rw [cls_of_kind s.t 6 hk (by decide),decide_eq_true hk];rfl
      · have : ¬ cls s.t = 56:=fun h=>hk (by rw [cls_kind s.t 56 h (by decide)];rfl)
        rw [decide_eq_false hk,decide_eq_false this]
    · rw [if_neg hf,decide_eq_true (by omega)];simp
  rw [h56]
  by_cases h1 : s.c = 56 <;> by_cases h2 : s.c = 4 <;> by_cases h3 : s.c = 5 <;> by_cases h4 : s.c = 6 <;> simp [h1,h2,h3,h4]
inductive RJ
  | exp (k : Nat) | opd | suf | fld | lst | nms | blk (c : Bool) | body | stat (p : Int) | loop (p : Int) | plain (p : Int)
section
variable (T : List Tok) (R : RJ → Sx → F → Sx → Prop)
inductive Lst : F → Sx → F → Sx → Prop
  | stop {a s} (h : s.c ≠ 15) : Lst a s a s
  | more {a s f s2 g s3} (h : s.c = 15) (h1 : R (.exp 1) s.tl f s2) (h2 : Lst (a.app f) s2 g s3) : Lst a s g s3
inductive Nms : F → Sx → F → Sx → Prop
  | stop {a s} (h : s.c ≠ 15) : Nms a s a s
  | more {a s g s3} (h : s.c = 15) (h2 : Nms (a.app (s.tl.nm 6)) (s.tl.name T) g s3) : Nms a s g s3
inductive Lvl (k : Nat) : F → Sx → F → Sx → Prop
  | stop {n s} (h : bnd s.c ≠ k) : Lvl k n s n s
  | more {n s m s2 g s3} (h : bnd s.c = k) (h1 : R (.exp (if k = 4 then 4 else k + 1)) s.tl m s2) (h2 : Lvl k (one 11 s.t.t 0 n.at (n.app m)) s2 g s3) : Lvl k n s g s3
inductive TabL : F → Sx → F → Sx → Prop
  | stop {a s} (h : s.c = 23 ∨ 0 ≤ s.f) : TabL a s a s
  | more {a s f s1 g s2} (h : s.f < 0) (hc : s.c ≠ 23) (h1 : R .fld s f s1) (h2 : s1.c = 15 ∨ s1.c = 1) (h3 : TabL (a.app f) s1.tl g s2) : TabL a s g s2
  | last {a s f s1} (h : s.f < 0) (hc : s.c ≠ 23) (h1 : R .fld s f s1) (h2 : s1.c ≠ 15) (h3 : s1.c ≠ 1) : TabL a s (a.app f) s1
inductive SufL (p : Int) : F → Sx → F → Sx → Prop
  | stop {n s} (h1 : s.c ≠ 19) (h2 : s.c ≠ 21) (h3 : s.c ≠ 17) : SufL p n s n s
  | idx {n s k s1 g s2} (h : s.c = 19) (h1 : R (.exp 1) s.tl k s1) (h2 : SufL p (one 7 [] 0 p (n.app k)) (s1.needC T 20) g s2) : SufL p n s g s2
  | dot {n s g s2} (h : s.c = 21) (h2 : SufL p (one 7 [] 0 p (n.app (s.tl.nm 5))) (s.tl.name T) g s2) : SufL p n s g s2
  | call0 {n s g s2} (h : s.c = 17) (h1 : s.tl.c = 18) (h2 : SufL p (one 8 [] 0 p n) s.tl.tl g s2) : SufL p n s g s2
  | callN {n s k s1 g s2} (h : s.c = 17) (h0 : s.tl.c ≠ 18) (h1 : R .lst s.tl k s1) (h2 : SufL p (one 8 [] 0 p (n.app k)) (s1.needC T 18) g s2) : SufL p n s g s2
inductive IfsL : F → Sx → F → Sx → Prop
  | elif {a s e s1 b s3 g s4} (h1 : R (.exp 1) s e s1) (h2 : R (.blk false) (s1.needC T 13) b s3) (h : s3.c = 6) (h3 : IfsL ((a.app e).app b) s3.tl g s4) : IfsL a s g s4
  | els {a s e s1 b s3 b2 s4} (h1 : R (.exp 1) s e s1) (h2 : R (.blk false) (s1.needC T 13) b s3) (h : s3.c = 5) (h3 : R (.blk false) s3.tl b2 s4) : IfsL a s (((a.app e).app b).app b2) (s4.needC T 4)
  | done {a s e s1 b s3} (h1 : R (.exp 1) s e s1) (h2 : R (.blk false) (s1.needC T 13) b s3) (h : s3.c ≠ 6) (h' : s3.c ≠ 5) : IfsL a s ((a.app e).app b) (s3.needC T 4)
def Sx.tg (T : List Tok) (s : Sx) (e : F) : Sx:=if e.kind = 6 ∨ e.kind = 7 then s else s.bad T e.at
inductive AsgL : F → F → Sx → F → Sx → Prop
  | stop {a e s} (h : 0 ≤ s.f) : AsgL a e s a s
  | last {a e s} (h : s.f < 0) (h2 : (s.tg T e).c ≠ 15) : AsgL a e s (a.app e) (s.tg T e)
  | more {a e s e2 s2 g s3} (h : s.f < 0) (h2 : (s.tg T e).c = 15) (h1 : R .suf (s.tg T e).tl e2 s2) (h3 : AsgL (a.app e) e2 s2 g s3) : AsgL a e s g s3
def Sx.sm (s : Sx) : Sx:=if s.c = 1 then s.tl else s
inductive ParL : Sx → F → Sx → Prop
  | none {s} (h : s.c = 18) : ParL s .nil s
  | some {s g s1} (h : s.c ≠ 18) (h1 : R .nms s g s1) : ParL s g s1
inductive BkL (c : Bool) : F → Sx → F → Sx → Prop
  | stop {a s} (h : s.cl) : BkL c a s a s
  | semi {a s g s2} (h : s.c = 1) (h2 : BkL c a s.tl g s2) : BkL c a s g s2
  | ret0 {a s} (h : s.c = 2) (h2 : s.tl.cl ∨ s.tl.c = 1) : BkL c a s (a.app (one 30 [] 0 s.t.p .nil)) s.tl.sm
  | retN {a s g s1} (h : s.c = 2) (h2 : ¬ s.tl.cl) (h3 : s.tl.c ≠ 1) (h1 : R .lst s.tl g s1) : BkL c a s (a.app (one 30 [] 0 s.t.p g)) s1.sm
  | fn {a s ps s4 b s6 g s7} (hc : c = true) (h : s.c = 3) (h1 : ParL R ((s.tl.name T).needC T 17) ps s4) (h2 : R (.blk false) (s4.needC T 18) b s6) (h3 : BkL c (a.app (one 31 (s.tl.nm 6).text ps.len s.t.p (ps.app b))) (s6.needC T 4) g s7) : BkL c a s g s7
  | st {a s f s1 g s2} (h0 : ¬ s.cl) (h1 : s.c ≠ 1) (h2 : s.c ≠ 2) (h3 : ¬ (c = true ∧ s.c = 3)) (h : R (.stat s.t.p) s f s1) (h4 : BkL c (a.app f) s1 g s2) : BkL c a s g s2
inductive Stp : RJ → Sx → F → Sx → Prop
  | expF {k s} (h : 0 ≤ s.f) : Stp (.exp k) s noF s
  | exp7 {s f s'} (h : s.f < 0) (h1 : R .opd s f s') : Stp (.exp 7) s f s'
  | expK {k s n s1 f s2} (h : s.f < 0) (hk : 1 ≤ k) (hk2 : k ≤ 6) (h1 : R (.exp (k + 1)) s n s1) (h2 : Lvl R k n s1 f s2) : Stp (.exp k) s f s2
  | num {s} (hf : s.f < 0) (h : s.c = 53) : Stp .opd s (one 4 [] s.t.v s.t.p .nil) s.tl
  | str {s} (hf : s.f < 0) (h : s.c = 54) : Stp .opd s (one 5 s.t.t 0 s.t.p .nil) s.tl
  | nil {s} (hf : s.f < 0) (h : s.c = 27) : Stp .opd s (one 1 [] 0 s.t.p .nil) s.tl
  | tru {s} (hf : s.f < 0) (h : s.c = 28) : Stp .opd s (one 2 [] 0 s.t.p .nil) s.tl
  | fls {s} (hf : s.f < 0) (h : s.c = 29) : Stp .opd s (one 3 [] 0 s.t.p .nil) s.tl
  | una {s f s1} (hf : s.f < 0) (h : s.c = 24 ∨ s.c = 25 ∨ s.c = 26) (h1 : R (.exp 7) s.tl f s1) : Stp .opd s (one 10 s.t.t 0 s.t.p f) s1
  | tab {s g s1} (hf : s.f < 0) (h : s.c = 22) (h1 : TabL R .nil s.tl g s1) : Stp .opd s (one 12 [] 0 s.t.p g) (s1.needC T 23)
  | osf {s f s1} (hf : s.f < 0) (h : s.c ≠ 53 ∧ s.c ≠ 54 ∧ s.c ≠ 27 ∧ s.c ≠ 28 ∧ s.c ≠ 29 ∧ s.c ≠ 24 ∧ s.c ≠ 25 ∧ s.c ≠ 26 ∧ s.c ≠ 22) (h1 : R .suf s f s1) : Stp .opd s f s1
  | spn {s e s1 g s2} (h : s.c = 17) (h1 : R (.exp 1) s.tl e s1) (h2 : SufL T R s.t.p (one 9 [] 0 s.t.p e) (s1.needC T 18) g s2) : Stp .suf s g s2
  | snm {s g s2} (h : s.c ≠ 17) (h2 : SufL T R s.t.p (s.nm 6) (s.name T) g s2) : Stp .suf s g s2
  | fbr {s k s1 v s3} (hf : s.f < 0) (h : s.c = 19) (h1 : R (.exp 1) s.tl k s1) (h2 : R (.exp 1) ((s1.needC T 20).needC T 14) v s3) : Stp .fld s (one 14 [] 0 s.t.p (k.app v)) s3
  | fnm {s v s1} (hf : s.f < 0) (h : s.c = 51) (h' : s.tl.c = 14) (h1 : R (.exp 1) s.tl.tl v s1) : Stp .fld s (one 14 [] 0 s.t.p ((s.nm 5).app v)) s1
  | fit {s v s1} (hf : s.f < 0) (h : s.c ≠ 19) (h' : ¬ (s.c = 51 ∧ s.tl.c = 14)) (h1 : R (.exp 1) s v s1) : Stp .fld s (one 13 [] 0 s.t.p v) s1
  | lst {s f s1 g s2} (h1 : R (.exp 1) s f s1) (h2 : Lst R f s1 g s2) : Stp .lst s g s2
  | nms {s g s2} (h2 : Nms T (s.nm 6) (s.name T) g s2) : Stp .nms s g s2
  | blk {c s g s1} (h : BkL T R c .nil s g s1) : Stp (.blk c) s (one 20 [] 0 s.t.p g) s1
  | body {s b s2} (h : R (.blk false) (s.needC T 7) b s2) : Stp .body s b (s2.needC T 4)
  | sdo {p s b s1} (hf : s.f < 0) (h : s.c = 7) (h1 : R .body s b s1) : Stp (.stat p) s (one 28 [] 0 p b) s1
  | swh {p s e s1 b s2} (hf : s.f < 0) (h : s.c = 8) (h1 : R (.exp 1) s.tl e s1) (h2 : R .body s1 b s2) : Stp (.stat p) s (one 25 [] 0 p (e.app b)) s2
  | sif {p s g s1} (hf : s.f < 0) (h : s.c = 9) (h1 : IfsL T R .nil s.tl g s1) : Stp (.stat p) s (one 24 [] 0 p g) s1
  | sfo {p s f s1} (hf : s.f < 0) (h : s.c = 10) (h1 : R (.loop p) s.tl f s1) : Stp (.stat p) s f s1
  | slo {p s ns s1} (hf : s.f < 0) (h : s.c = 11) (h1 : R .nms s.tl ns s1) (h2 : s1.c ≠ 14) : Stp (.stat p) s (one 21 [] ns.len p ns) s1
  | sle {p s ns s1 g s2} (hf : s.f < 0) (h : s.c = 11) (h1 : R .nms s.tl ns s1) (h2 : s1.c = 14) (h3 : R .lst s1.tl g s2) : Stp (.stat p) s (one 21 [] ns.len p (ns.app g)) s2
  | sbr {p s} (hf : s.f < 0) (h : s.c = 12) : Stp (.stat p) s (one 29 [] 0 p .nil) s.tl
  | spl {p s f s1} (hf : s.f < 0) (h : s.c ≠ 7 ∧ s.c ≠ 8 ∧ s.c ≠ 9 ∧ s.c ≠ 10 ∧ s.c ≠ 11 ∧ s.c ≠ 12) (h1 : R (.plain p) s f s1) : Stp (.stat p) s f s1
  | ln2 {p s e1 s2 e2 s4 b s5} (h : (s.name T).c = 14) (h1 : R (.exp 1) (s.name T).tl e1 s2) (h2 : R (.exp 1) (s2.needC T 15) e2 s4) (h3 : s4.c ≠ 15) (h4 : R .body s4 b s5) : Stp (.loop p) s (one 26 [] 0 p ((((s.nm 6).app e1).app e2).app b)) s5
  | ln3 {p s e1 s2 e2 s4 e3 s5 b s6} (h : (s.name T).c = 14) (h1 : R (.exp 1) (s.name T).tl e1 s2) (h2 : R (.exp 1) (s2.needC T 15) e2 s4) (h3 : s4.c = 15) (h4 : R (.exp 1) s4.tl e3 s5) (h5 : R .body s5 b s6) : Stp (.loop p) s (one 26 [] 0 p (((((s.nm 6).app e1).app e2).app e3).app b)) s6
  | lin {p s ns s2 g s4 b s5} (h : (s.name T).c ≠ 14) (h1 : Nms T (s.nm 6) (s.name T) ns s2) (h2 : R .lst (s2.needC T 16) g s4) (h3 : R .body s4 b s5) : Stp (.loop p) s (one 27 [] ns.len p ((ns.app g).app b)) s5
  | prn {p s e s1} (h1 : R .suf s e s1) (h : s1.c ≠ 14 ∧ s1.c ≠ 15) (hk : e.kind = 8) : Stp (.plain p) s (one 23 [] 0 p e) s1
  | prb {p s e s1} (h1 : R .suf s e s1) (h : s1.c ≠ 14 ∧ s1.c ≠ 15) (hk : e.kind ≠ 8) : Stp (.plain p) s (one 23 [] 0 p e) (s1.bad T s1.t.p)
  | pas {p s e s1 ts s2 g s4} (h1 : R .suf s e s1) (h : s1.c = 14 ∨ s1.c = 15) (h2 : AsgL T R .nil e s1 ts s2) (h3 : R .lst (s2.needC T 14) g s4) : Stp (.plain p) s (one 22 [] ts.len p (ts.app g)) s4
end
end Go.Proofs.YtlgkfhipobdcfaaGreatDoor


namespace Go.Proofs.YtlgkfhipobdcfaaGreatDoor
open Go.RowKit
section
variable {T : List Tok} {R : RJ → Sx → F → Sx → Prop} (hE : Ends T) (hR : ∀ j s f s',Stp T R j s f s' → R j s f s')
abbrev at' (l : List Tok) : Sx:=⟨l,-1⟩
abbrev no' (T : List Tok) (p : Int) : Sx:=⟨lst1 T,p⟩
theorem at_c (l : List Tok) (h : l ≠ []) : (at' l).c = hc l:=by
  cases l with
  | nil=>exact absurd rfl h
  | cons t l=>rfl
theorem at_t (l : List Tok) : ((at' l).t.p : Int) = ha l:=by cases l <;> rfl
theorem at_tt (l : List Tok) : (at' l).t.t = ht l:=by cases l <;> rfl
theorem at_tv (l : List Tok) : (at' l).t.v = hv l:=by cases l <;> rfl
theorem no_c {p : Int} (hp : 0 ≤ p) : (no' T p).c = 56:=by unfold Sx.c;exact if_neg (by show ¬ p < 0;omega)
theorem no_bad {p : Int} (hp : 0 ≤ p) (a : Int) : (no' T p).bad T a = no' T p:=by
  unfold Sx.bad bdF
  rw [if_neg (show ¬ (no' T p).f < 0 by show ¬ p < 0;omega)]
theorem no_need {p : Int} (hp : 0 ≤ p) (c : Nat) (hc : c ≠ 56) : (no' T p).needC T c = no' T p:=by
  unfold Sx.needC
  rw [no_c hp,if_neg (fun h=>hc h.symm),no_bad hp]
theorem no_name {p : Int} (hp : 0 ≤ p) : (no' T p).name T = no' T p:=by
  unfold Sx.name
  rw [if_neg (fun h=>by have : p < 0:=h.1;omega),no_bad hp]
theorem no_nm {p : Int} (hp : 0 ≤ p) (q : Int) : (no' T p).nm q = noF:=by
  unfold Sx.nm
  rw [if_neg (fun h=>by have : p < 0:=h.1;omega)]
def Oc (T : List Tok) (X : F → Sx → Prop) : PR → Prop
  | .ok g m=>X g (at' m)
  | .bad p=>0 ≤ p ∧ ∃ f,X f (no' T p)
  | .out=>True
theorem Oc.mono {X Y : F → Sx → Prop} {x : PR} (h : Oc T X x) (hk : ∀ f s,X f s → Y f s) : Oc T Y x:=by
  cases x with
  | ok g m=>exact hk _ _ h
  | bad p=>exact ⟨h.1,h.2.elim fun f hf=>⟨f,hk _ _ hf⟩⟩
  | out=>trivial
theorem Oc.bind {X Y : F → Sx → Prop} {x : PR} {k : F → List Tok → PR} (h : Oc T X x) (h1 : ∀ f m,x = .ok f m → X f (at' m) → Oc T Y (k f m)) (h2 : ∀ f p,0 ≤ p → X f (no' T p) → ∃ g,Y g (no' T p)) : Oc T Y (x.bind k):=by
  cases x with
  | ok g m=>exact h1 g m rfl h
  | bad p =>
    obtain ⟨hp,f,hf⟩:=h
    exact ⟨hp,h2 f p hp hf⟩
  | out=>trivial
theorem ha_nn (l : List Tok) : 0 ≤ ha l:=by
  cases l with
  | nil=>exact Int.le_refl 0
  | cons t l=>show (0 : Int) ≤ (t.p : Int);omega
theorem Oc.need {Y : F → Sx → Prop} {c : Nat} {l : List Tok} {k : List Tok → PR} (hl : l ≠ []) (h1 : hc l = c → (at' l).needC T c = at' l.tail → Oc T Y (k l.tail)) (h2 : ∀ p,0 ≤ p → (at' l).needC T c = no' T p → ∃ g,Y g (no' T p)) : Oc T Y (need c l k):=by
  unfold Go.Proofs.YtlgkfhipobdcfaaGreatDoor.need
  have hcc:=at_c l hl
  split
  · next h =>
    refine h1 h ?_
    unfold Sx.needC
    rw [hcc,if_pos h];rfl
  · next h =>
    refine ⟨ha_nn l,h2 _ (ha_nn l) ?_⟩
    unfold Sx.needC
    rw [hcc,if_neg h,at_t]
    rfl
theorem Oc.nam {Y : F → Sx → Prop} {q : Int} {l : List Tok} {k : F → List Tok → PR} (hl : l ≠ []) (h1 : hc l = 51 → (at' l).nm q = one q (ht l) 0 (ha l) .nil → (at' l).name T = at' l.tail → Oc T Y (k (one q (ht l) 0 (ha l) .nil) l.tail)) (h2 : ∀ p,0 ≤ p → (at' l).nm q = noF → (at' l).name T = no' T p → ∃ g,Y g (no' T p)) : Oc T Y (nam q l k):=by
  unfold Go.Proofs.YtlgkfhipobdcfaaGreatDoor.nam
  have hcc:=at_c l hl
  have hn:=name_c (at' l)
  rw [hcc] at hn
  split
  · next h =>
    refine h1 h ?_ ?_
    · unfold Sx.nm;rw [if_pos (hn.2 h),at_tt,at_t]
    · unfold Sx.name;rw [if_pos (hn.2 h)];rfl
  · next h =>
    refine ⟨ha_nn l,h2 _ (ha_nn l) ?_ ?_⟩
    · unfold Sx.nm;rw [if_neg (fun x=>h (hn.1 x))]
    · unfold Sx.name;rw [if_neg (fun x=>h (hn.1 x)),at_t];rfl
include hR in
theorem fl_exp (k : Nat) {p : Int} (hp : 0 ≤ p) : R (.exp k) (no' T p) noF (no' T p):=hR _ _ _ _ (.expF hp)
include hR in
theorem fl_lst {p : Int} (hp : 0 ≤ p) : R .lst (no' T p) noF (no' T p):=hR _ _ _ _ (.lst (fl_exp hR 1 hp) (.stop (by rw [no_c hp];decide)))
include hR in
theorem fl_nms {p : Int} (hp : 0 ≤ p) : R .nms (no' T p) noF (no' T p):=hR _ _ _ _ (.nms (by rw [no_nm hp,no_name hp];exact .stop (by rw [no_c hp];decide)))
include hR in
theorem fl_blk (c : Bool) {p : Int} (hp : 0 ≤ p) : ∃ f,R (.blk c) (no' T p) f (no' T p):=⟨_,hR _ _ _ _ (.blk (.stop (.inl (no_c hp))))⟩
include hR in
theorem fl_body {p : Int} (hp : 0 ≤ p) : ∃ f,R .body (no' T p) f (no' T p):=by
  obtain ⟨f,hf⟩:=fl_blk (T:=T) hR false hp
  have h7:=no_need (T:=T) hp 7 (by decide)
  have h4:=no_need (T:=T) hp 4 (by decide)
  refine ⟨f,?_⟩
  have:=hR _ _ _ _ (Stp.body (T:=T) (R:=R) (s:=no' T p) (b:=f) (s2:=no' T p) (by rw [h7];exact hf))
  rw [h4] at this
  exact this
theorem fl_sufl {p : Int} (hp : 0 ≤ p) (q : Int) (n : F) : SufL T R q n (no' T p) n (no' T p):=.stop (by rw [no_c hp];decide) (by rw [no_c hp];decide) (by rw [no_c hp];decide)
def ChL (R : RJ → Sx → F → Sx → Prop) : Nat → F → Sx → F → Sx → Prop
  | 0,f,s,g,s'=>g = f ∧ s' = s
  | d + 1,f,s,g,s'=>∃ f1 s1,ChL R d f s f1 s1 ∧ Lvl R (6 - d) f1 s1 g s'
theorem ch_stop : ∀ (d : Nat) (f : F) (s : Sx),d ≤ 6 → bnd s.c + d ≤ 6 → ChL R d f s f s
  | 0,_,_,_,_=>⟨rfl,rfl⟩
  | d + 1,f,s,hd,h=>⟨f,s,ch_stop d f s (by omega) (by omega),.stop (by omega)⟩
theorem ch_inv : ∀ (d : Nat) (f : F) (s : Sx) (g : F) (s' : Sx),d ≤ 6 → bnd s.c + d ≤ 6 → ChL R d f s g s' → g = f ∧ s' = s
  | 0,_,_,_,_,_,_,h=>h
  | d + 1,f,s,g,s',hd,hb,⟨f1,s1,h1,h2⟩=>by
    obtain ⟨rfl,rfl⟩:=ch_inv d f s f1 s1 (by omega) (by omega) h1
    cases h2 with
    | stop h=>exact ⟨rfl,rfl⟩
    | more h _ _=>omega
theorem ch_op {b : Nat} (hb : 1 ≤ b) (hb6 : b ≤ 6) {f f' m : F} {s s2 : Sx} (hs : bnd s.c = b) (hs2 : bnd s2.c ≤ b) (hf' : f' = one 11 s.t.t 0 f.at (f.app m)) (h1 : R (.exp (if b = 4 then 4 else b + 1)) s.tl m s2) : ∀ (d : Nat) (g : F) (s' : Sx),7 - b ≤ d → d ≤ 6 → ChL R d f' s2 g s' → ChL R d f s g s'
  | 0,_,_,h,_,_=>by omega
  | d + 1,g,s',h,hd,⟨f1,s1,k1,k2⟩=>by
    by_cases hd2 : 7 - b ≤ d
    · exact ⟨f1,s1,ch_op hb hb6 hs hs2 hf' h1 d f1 s1 hd2 (by omega) k1,k2⟩
    · obtain ⟨rfl,rfl⟩:=ch_inv d f' s2 f1 s1 (by omega) (by omega) k1
      have e : 6 - d = b:=by omega
      refine ⟨f,s,ch_stop d f s (by omega) (by omega),?_⟩
      rw [e] at k2 ⊢
      rw [hf'] at k2
      exact .more hs h1 k2
include hR in
theorem ch_exp {f : F} {s s1 : Sx} (hs : s.f < 0) (h : R (.exp 7) s f s1) : ∀ (d : Nat) (g : F) (s' : Sx),d ≤ 6 → ChL R d f s1 g s' → R (.exp (7 - d)) s g s'
  | 0,_,_,_,⟨rfl,rfl⟩=>h
  | d + 1,g,s',hd,⟨f1,s2,k1,k2⟩=>by
    have ih:=ch_exp hs h d f1 s2 (by omega) k1
    have e : 7 - (d + 1) = 6 - d:=by omega
    rw [e]
    have e2 : 7 - d = (6 - d) + 1:=by omega
    rw [e2] at ih
    exact hR _ _ _ _ (.expK hs (by omega) (by omega) ih k2)
end
end Go.Proofs.YtlgkfhipobdcfaaGreatDoor


namespace Go.Proofs.YtlgkfhipobdcfaaGreatDoor
open Go.RowKit
theorem PR.bb (x : PR) (k k' : F → List Tok → PR) : (x.bind k).bind k' = x.bind fun f m=>(k f m).bind k':=by cases x <;> rfl
theorem PR.bc {x : PR} {k k' : F → List Tok → PR} (h : ∀ f m,k f m = k' f m) : x.bind k = x.bind k':=by
  cases x with
  | ok f m=>exact h f m
  | bad p=>rfl
  | out=>rfl
theorem lst_acc : ∀ (n : Nat) (a b : F) (l : List Tok),pr n (.lst (a.app b)) l = (pr n (.lst b) l).bind fun f m=>.ok (a.app f) m
  | 0,_,_,_=>rfl
  | n + 1,a,b,l=>by
    simp only [pr_succ,stp',PR.bb]
    refine PR.bc fun f m=>?_
    rw [F.app_assoc]
    split
    · exact lst_acc n _ _ _
    · rfl
theorem lst_acc0 (n : Nat) (a : F) (l : List Tok) : pr n (.lst a) l = (pr n (.lst .nil) l).bind fun f m=>.ok (a.app f) m:=by
  have:=lst_acc n a .nil l
  rw [F.app_nil] at this
  exact this
theorem sufl_at : ∀ (n : Nat) (f : F) (l : List Tok) (g : F) (m : List Tok),pr n (.sufl f) l = .ok g m → g.at = f.at
  | 0,_,_,_,_,h=>by cases h
  | n + 1,f,l,g,m,h=>by
    have hb : ∀ {x : PR} {k : F → List Tok → PR},x.bind k = .ok g m → ∃ f' m',k f' m' = .ok g m:=fun {x k} h=>by
      cases x with
      | ok f' m'=>exact ⟨f',m',h⟩
      | bad p=>cases h
      | out=>cases h
    rw [pr_succ] at h
    simp only [stp'] at h
    split at h
    · obtain ⟨f',m',h⟩:=hb h
      unfold need at h
      split at h
      · exact (sufl_at n (one 7 [] 0 f.at (f.app f')) m'.tail g m h).trans rfl
      · cases h
    · split at h
      · unfold nam at h
        split at h
        · exact (sufl_at n (one 7 [] 0 f.at (f.app (one 5 (ht l.tail) 0 (ha l.tail) .nil))) l.tail.tail g m h).trans rfl
        · cases h
      · split at h
        · obtain ⟨f',m',h⟩:=hb h
          exact (sufl_at n (one 8 [] 0 f.at f') m' g m h).trans rfl
        · injection h with h _;rw [h]
theorem suf_at (n : Nat) (l : List Tok) (g : F) (m : List Tok) (h : pr n .suf l = .ok g m) : g.at = ha l:=by
  cases n with
  | zero=>cases h
  | succ n =>
    rw [pr_succ] at h
    simp only [stp'] at h
    cases hx : stemP (pr n) l with
    | bad p=>rw [hx] at h;cases h
    | out=>rw [hx] at h;cases h
    | ok f m1 =>
      rw [hx] at h
      rw [sufl_at n f m1 g m h]
      unfold stemP at hx
      split at hx
      · cases hy : pr n (.ex 0) l.tail with
        | bad p=>rw [hy] at hx;cases hx
        | out=>rw [hy] at hx;cases hx
        | ok e l1 =>
          rw [hy] at hx
          simp only [PR.bind,need] at hx
          split at hx
          · injection hx with hx _;rw [← hx];rfl
          · cases hx
      · unfold nam at hx
        split at hx
        · injection hx with hx _;rw [← hx];rfl
        · cases hx
theorem exl_stop : ∀ (n a : Nat) (f : F) (l : List Tok) (g : F) (m : List Tok),pr n (.exl a f) l = .ok g m → bnd (hc m) ≤ a
  | 0,_,_,_,_,_,h=>by cases h
  | n + 1,a,f,l,g,m,h=>by
    rw [pr_succ] at h
    simp only [stp'] at h
    split at h
    · cases hx : pr n (.ex (if bnd (hc l) = 4 then 3 else bnd (hc l))) l.tail with
      | bad p=>rw [hx] at h;cases h
      | out=>rw [hx] at h;cases h
      | ok f' m'=>rw [hx] at h;exact exl_stop n a _ _ _ _ h
    · next hb =>
      injection h with _ h
      rw [← h];omega
theorem ex_stop (n a : Nat) (l : List Tok) (g : F) (m : List Tok) (h : pr n (.ex a) l = .ok g m) : bnd (hc m) ≤ a:=by
  cases n with
  | zero=>cases h
  | succ n =>
    rw [pr_succ] at h
    simp only [stp'] at h
    cases hx : pr n .opd l with
    | bad p=>rw [hx] at h;cases h
    | out=>rw [hx] at h;cases h
    | ok f' m'=>rw [hx] at h;exact exl_stop n a _ _ _ _ h
theorem bnd_le (c : Nat) : bnd c ≤ 6:=by
  unfold bnd
  repeat' split
  all_goals omega
section
variable {T : List Tok} {R : RJ → Sx → F → Sx → Prop} (hR : ∀ j s f s',Stp T R j s f s' → R j s f s')
@[reducible] def Jr (T : List Tok) (R : RJ → Sx → F → Sx → Prop) (j : J) (l : List Tok) (g : F) (s : Sx) : Prop :=
  match j with
  | .blk c=>R (.blk c) (at' l) g s
  | .bk c a=>BkL T R c a (at' l) g s
  | .stat=>R (.stat (ha l)) (at' l) g s
  | .lst a=>∃ f s1,R (.exp 1) (at' l) f s1 ∧ Lst R (a.app f) s1 g s
  | .nms a=>Nms T a (at' l) g s
  | .ifs a=>IfsL T R a (at' l) g s
  | .asg _=>True
  | .ex a=>R (.exp (a + 1)) (at' l) g s
  | .exl a f=>ChL R (6 - a) f (at' l) g s
  | .opd=>R .opd (at' l) g s
  | .suf=>R .suf (at' l) g s
  | .sufl f=>SufL T R f.at f (at' l) g s
  | .tab a=>TabL R a (at' l) g s
  | .fld=>R .fld (at' l) g s
@[reducible] def Kj (T : List Tok) (R : RJ → Sx → F → Sx → Prop) (n : Nat) (j : J) (l : List Tok) : Prop :=
  match j with
  | .asg a=>∀ a' e,a = a'.app e → (e.kind = 6 ∨ e.kind = 7) → Oc T (AsgL T R a' e (at' l)) (pr n (.asg a) l)
  | .ex a=>a ≤ 6 → Oc T (Jr T R (.ex a) l) (pr n (.ex a) l)
  | .exl a f=>a ≤ 6 → Oc T (Jr T R (.exl a f) l) (pr n (.exl a f) l)
  | j=>Oc T (Jr T R j l) (pr n j l)
variable {n : Nat} (ih : ∀ j l,Ends l → Kj T R n j l)
include hR ih
theorem kr_lst {l : List Tok} (hl : Ends l) : Oc T (R .lst (at' l)) (pr n (.lst .nil) l) :=
  (ih (.lst .nil) l hl).mono fun _ _ ⟨_,_,h1,h2⟩=>hR _ _ _ _ (.lst h1 h2)
omit hR in
theorem kr_ex {l : List Tok} (hl : Ends l) : Oc T (R (.exp 1) (at' l)) (pr n (.ex 0) l):=ih (.ex 0) l hl (by decide)
theorem kr_body {l : List Tok} {Y : F → Sx → Prop} {k : F → List Tok → PR} (hl : Ends l) (h1 : ∀ f m,Ends m → R .body (at' l) f (at' m) → Oc T Y (k f m)) (h2 : ∀ f p,0 ≤ p → R .body (at' l) f (no' T p) → ∃ g,Y g (no' T p)) : Oc T Y (bodyP (pr n) l k):=by
  unfold bodyP
  refine .need hl.ne (fun hc he=>?_) fun p hp he=>?_
  · have hl1:=hl.tl (by rw [hc];decide)
    refine .bind (ih (.blk false) _ hl1) (fun f m hx hf=>?_) fun f p hp hf=>?_
    · have hm:=pr_ends hx hl1
      refine .need hm.ne (fun hc2 he2=>?_) fun p hp he2=>?_
      · refine h1 f m.tail (hm.tl (by rw [hc2];decide)) ?_
        have:=hR _ _ _ _ (Stp.body (T:=T) (R:=R) (s:=at' l) (b:=f) (s2:=at' m) (by rw [he];exact hf))
        rw [he2] at this;exact this
      · refine h2 f p hp ?_
        have:=hR _ _ _ _ (Stp.body (T:=T) (R:=R) (s:=at' l) (b:=f) (s2:=at' m) (by rw [he];exact hf))
        rw [he2] at this;exact this
    · refine h2 f p hp ?_
      have:=hR _ _ _ _ (Stp.body (T:=T) (R:=R) (s:=at' l) (b:=f) (s2:=no' T p) (by rw [he];exact hf))
      rw [no_need hp 4 (by decide)] at this;exact this
  · obtain ⟨f,hf⟩:=fl_blk (T:=T) hR false hp
    refine h2 f p hp ?_
    have:=hR _ _ _ _ (Stp.body (T:=T) (R:=R) (s:=at' l) (b:=f) (s2:=no' T p) (by rw [he];exact hf))
    rw [no_need hp 4 (by decide)] at this;exact this
omit hR ih in
theorem kr_need {l : List Tok} {c : Nat} {Y : F → Sx → Prop} {k : List Tok → PR} (hl : Ends l) (hc56 : c ≠ 56) (h1 : hc l = c → Ends l.tail → (at' l).needC T c = at' l.tail → Oc T Y (k l.tail)) (h2 : ∀ p,0 ≤ p → (at' l).needC T c = no' T p → ∃ g,Y g (no' T p)) : Oc T Y (need c l k) :=
  .need hl.ne (fun h e=>h1 h (hl.tl (by rw [h];exact hc56)) e) h2
theorem kr_blk (c : Bool) {l : List Tok} (hl : Ends l) : Oc T (R (.blk c) (at' l)) (stp' (pr n) (.blk c) l):=by
  refine .bind (ih (.bk c .nil) l hl) (fun f m _ hf=>?_) fun f p hp hf=>?_
  · have:=hR _ _ _ _ (.blk hf)
    rw [at_t] at this
    exact this
  · exact ⟨_,hR _ _ _ _ (.blk hf)⟩
theorem kr_while {l : List Tok} (hl : Ends l) (h : hc l = 8) : Oc T (R (.stat (ha l)) (at' l)) (whileP (pr n) l):=by
  have hl1:=hl.tl (by rw [h];decide)
  have hc' : (at' l).c = 8:=(at_c l hl.ne).trans h
  refine .bind (kr_ex ih hl1) (fun e m hx he=>?_) fun e p hp he=>?_
  · have hm:=pr_ends hx hl1
    exact kr_body hR ih hm (fun b m2 _ hb=>hR _ _ _ _ (.swh (by show (-1 : Int) < 0;decide) hc' he hb)) fun b p hp hb=>⟨_,hR _ _ _ _ (.swh (by show (-1 : Int) < 0;decide) hc' he hb)⟩
  · obtain ⟨b,hb⟩:=fl_body (T:=T) hR hp
    exact ⟨_,hR _ _ _ _ (.swh (by show (-1 : Int) < 0;decide) hc' he hb)⟩
theorem kr_loc {l : List Tok} (hl : Ends l) (h : hc l = 11) : Oc T (R (.stat (ha l)) (at' l)) (locP (pr n) l):=by
  have hl1:=hl.tl (by rw [h];decide)
  have hc' : (at' l).c = 11:=(at_c l hl.ne).trans h
  have hf0 : (at' l).f < 0:=by show (-1 : Int) < 0;decide
  refine .nam hl1.ne (fun h51 e1 e2=>?_) fun p hp e1 e2=>?_
  · have hl2:=hl1.tl (by rw [h51];decide)
    refine .bind (ih (.nms _) _ hl2) (fun ns m hx hn=>?_) fun ns p hp hn=>?_
    · have hm:=pr_ends hx hl2
      have hn' : R .nms (at' l).tl ns (at' m):=hR _ _ _ _ (.nms (by show Nms T ((at' l.tail).nm 6) ((at' l.tail).name T) ns (at' m);rw [e1,e2];exact hn))
      split
      · next h14 =>
        rw [lst_acc0,PR.bb]
        have hm1:=hm.tl (by rw [h14];decide)
        refine .bind (kr_lst hR ih hm1) (fun g m2 _ hg=>?_) fun g p hp hg=>?_
        · exact hR _ _ _ _ (.sle hf0 hc' hn' ((at_c m hm.ne).trans h14) hg)
        · exact ⟨_,hR _ _ _ _ (.sle hf0 hc' hn' ((at_c m hm.ne).trans h14) hg)⟩
      · next h14=>exact hR _ _ _ _ (.slo hf0 hc' hn' (by rw [at_c m hm.ne];exact h14))
    · have hn' : R .nms (at' l).tl ns (no' T p):=hR _ _ _ _ (.nms (by show Nms T ((at' l.tail).nm 6) ((at' l.tail).name T) ns (no' T p);rw [e1,e2];exact hn))
      exact ⟨_,hR _ _ _ _ (.slo hf0 hc' hn' (by rw [no_c hp];decide))⟩
  · have hn' : R .nms (at' l).tl noF (no' T p):=hR _ _ _ _ (.nms (by show Nms T ((at' l.tail).nm 6) ((at' l.tail).name T) noF (no' T p);rw [e1,e2];exact .stop (by rw [no_c hp];decide)))
    exact ⟨_,hR _ _ _ _ (.slo hf0 hc' hn' (by rw [no_c hp];decide))⟩
theorem kr_for {l : List Tok} (hl : Ends l) (h : hc l = 10) : Oc T (R (.stat (ha l)) (at' l)) (forP (pr n) l):=by
  have hl1:=hl.tl (by rw [h];decide)
  have hc' : (at' l).c = 10:=(at_c l hl.ne).trans h
  have hf0 : (at' l).f < 0:=by show (-1 : Int) < 0;decide
  suffices H : Oc T (R (.loop (ha l)) (at' l.tail)) (forP (pr n) l) from H.mono fun g s hg=>hR _ _ _ _ (.sfo hf0 hc' hg)
  refine .nam hl1.ne (fun h51 e1 e2=>?_) fun p hp e1 e2=>?_
  · have hl2:=hl1.tl (by rw [h51];decide)
    split
    · next h14 =>
      have c14 : ((at' l.tail).name T).c = 14:=by rw [e2,at_c _ hl2.ne];exact h14
      have hl3:=hl2.tl (by rw [h14];decide)
      have f2 : ∀ {e1 : F} {s2 : Sx} {e2' : F} {p : Int},0 ≤ p → R (.exp 1) ((at' l.tail).name T).tl e1 s2 → R (.exp 1) (s2.needC T 15) e2' (no' T p) → ∃ g,R (.loop (ha l)) (at' l.tail) g (no' T p):=fun hp k1 k2=>by
        obtain ⟨b,hb⟩:=fl_body (T:=T) hR hp
        exact ⟨_,hR _ _ _ _ (.ln2 c14 k1 k2 (by rw [no_c hp];decide) hb)⟩
      unfold numP
      refine .bind (kr_ex ih hl3) (fun a1 m1 hx1 k1=>?_) fun a1 p hp k1=>?_
      · have hm1:=pr_ends hx1 hl3
        have k1 : R (.exp 1) ((at' l.tail).name T).tl a1 (at' m1):=by rw [e2];exact k1
        refine kr_need hm1 (by decide) (fun h15 hm2 q1=>?_) fun p hp q1=>f2 hp k1 (by rw [q1];exact fl_exp hR 1 hp)
        refine .bind (kr_ex ih hm2) (fun a2 m3 hx2 k2=>?_) fun a2 p hp k2=>f2 hp k1 (by rw [q1];exact k2)
        have hm3:=pr_ends hx2 hm2
        have k2 : R (.exp 1) ((at' m1).needC T 15) a2 (at' m3):=by rw [q1];exact k2
        split
        · next h152 =>
          have hm4:=hm3.tl (by rw [h152];decide)
          refine .bind (kr_ex ih hm4) (fun a3 m5 hx3 k3=>?_) fun a3 p hp k3=>?_
          · have hm5:=pr_ends hx3 hm4
            exact kr_body hR ih hm5 (fun b m6 _ hb=>by have:=hR _ _ _ _ (.ln3 (p:=ha l) c14 k1 k2 ((at_c _ hm3.ne).trans h152) k3 hb);rw [e1] at this;exact this) fun b p hp hb=>⟨_,hR _ _ _ _ (.ln3 c14 k1 k2 ((at_c _ hm3.ne).trans h152) k3 hb)⟩
          · obtain ⟨b,hb⟩:=fl_body (T:=T) hR hp
            exact ⟨_,hR _ _ _ _ (.ln3 c14 k1 k2 ((at_c _ hm3.ne).trans h152) k3 hb)⟩
        · next h152 =>
          exact kr_body hR ih hm3 (fun b m6 _ hb=>by have:=hR _ _ _ _ (.ln2 (p:=ha l) c14 k1 k2 (by rw [at_c _ hm3.ne];exact h152) hb);rw [e1] at this;exact this) fun b p hp hb=>⟨_,hR _ _ _ _ (.ln2 c14 k1 k2 (by rw [at_c _ hm3.ne];exact h152) hb)⟩
      · exact f2 hp (s2:=no' T p) (by rw [e2];exact k1) (by rw [no_need hp 15 (by decide)];exact fl_exp hR 1 hp)
    · next h14 =>
      have c14 : ((at' l.tail).name T).c ≠ 14:=by rw [e2,at_c _ hl2.ne];exact h14
      have f3 : ∀ {ns g : F} {s2 : Sx} {p : Int},0 ≤ p → Nms T ((at' l.tail).nm 6) ((at' l.tail).name T) ns s2 → R .lst (s2.needC T 16) g (no' T p) → ∃ g,R (.loop (ha l)) (at' l.tail) g (no' T p):=fun hp k1 k2=>by
        obtain ⟨b,hb⟩:=fl_body (T:=T) hR hp
        exact ⟨_,hR _ _ _ _ (.lin c14 k1 k2 hb)⟩
      refine .bind (ih (.nms _) _ hl2) (fun ns m1 hx1 k1=>?_) fun ns p hp k1=>f3 hp (s2:=no' T p) (by rw [e1,e2];exact k1) (by rw [no_need hp 16 (by decide)];exact fl_lst hR hp)
      have hm1:=pr_ends hx1 hl2
      have k1 : Nms T ((at' l.tail).nm 6) ((at' l.tail).name T) ns (at' m1):=by rw [e1,e2];exact k1
      refine kr_need hm1 (by decide) (fun h16 hm2 q1=>?_) fun p hp q1=>f3 hp k1 (by rw [q1];exact fl_lst hR hp)
      rw [lst_acc0,PR.bb]
      refine .bind (kr_lst hR ih hm2) (fun g m3 hx2 k2=>?_) fun g p hp k2=>f3 hp k1 (by rw [q1];exact k2)
      have hm3:=pr_ends hx2 hm2
      have k2 : R .lst ((at' m1).needC T 16) g (at' m3):=by rw [q1];exact k2
      exact kr_body hR ih hm3 (fun b m6 _ hb=>hR _ _ _ _ (.lin c14 k1 k2 hb)) fun b p hp hb=>⟨_,hR _ _ _ _ (.lin c14 k1 k2 hb)⟩
  · have c14 : ((at' l.tail).name T).c ≠ 14:=by rw [e2,no_c hp];decide
    obtain ⟨b,hb⟩:=fl_body (T:=T) hR hp
    exact ⟨_,hR _ _ _ _ (.lin (s2:=no' T p) (ns:=noF) c14 (by rw [e1,e2];exact .stop (by rw [no_c hp];decide)) (by rw [no_need hp 16 (by decide)];exact fl_lst hR hp) hb)⟩
end
end Go.Proofs.YtlgkfhipobdcfaaGreatDoor


namespace Go.Proofs.YtlgkfhipobdcfaaGreatDoor
open Go.RowKit
section
variable {T : List Tok} {R : RJ → Sx → F → Sx → Prop} (hR : ∀ j s f s',Stp T R j s f s' → R j s f s')
theorem m1f (l : List Tok) : (at' l).f < 0:=by show (-1 : Int) < 0;decide
theorem tg_ok {s : Sx} {e : F} (h : e.kind = 6 ∨ e.kind = 7) : s.tg T e = s:=if_pos h
theorem tg_no {s : Sx} {e : F} (h : ¬ (e.kind = 6 ∨ e.kind = 7)) : s.tg T e = s.bad T e.at:=if_neg h
variable {n : Nat} (ih : ∀ j l,Ends l → Kj T R n j l)
include hR ih
theorem kr_plain {l : List Tok} (hl : Ends l) : Oc T (R (.plain (ha l)) (at' l)) (asgP (pr n) l):=by
  have fS : ∀ {e ts : F} {s1 s2 : Sx} {p : Int},0 ≤ p → R .suf (at' l) e s1 → (s1.c = 14 ∨ s1.c = 15) → AsgL T R .nil e s1 ts s2 → R .lst (s2.needC T 14) noF (no' T p) → ∃ g,R (.plain (ha l)) (at' l) g (no' T p):=fun hp k1 hc k2 k3=>⟨_,hR _ _ _ _ (.pas k1 hc k2 k3)⟩
  unfold asgP
  refine .bind (ih .suf l hl) (fun f m hx k1=>?_) fun f p hp k1=>?_
  · have hm:=pr_ends hx hl
    have hat:=suf_at n l f m hx
    have hcm:=at_c m hm.ne
    split
    · next h1415 =>
      have hcc : (at' m).c = 14 ∨ (at' m).c = 15:=by rw [hcm];exact h1415
      unfold tgt
      split
      · next hk =>
        refine .bind (ih (.asg f) m hm .nil f rfl hk) (fun ts m2 hx2 k2=>?_) fun ts p hp k2=>?_
        · have hm2:=pr_ends hx2 hm
          refine kr_need hm2 (by decide) (fun h14 hm3 q1=>?_) fun p hp q1=>fS hp k1 hcc k2 (by rw [q1];exact fl_lst hR hp)
          rw [lst_acc0,PR.bb]
          refine .bind (kr_lst hR ih hm3) (fun g m4 _ k3=>?_) fun g p hp k3=>⟨_,hR _ _ _ _ (.pas k1 hcc k2 (by rw [q1];exact k3))⟩
          have:=hR _ _ _ _ (Stp.pas (p:=ha l) k1 hcc k2 (by rw [q1];exact k3))
          rw [hat]
          exact this
        · exact fS hp k1 hcc k2 (by rw [no_need hp 14 (by decide)];exact fl_lst hR hp)
      · next hk =>
        have hp : 0 ≤ f.at:=by rw [hat];exact ha_nn l
        refine ⟨hp,?_⟩
        have e1 : (at' m).tg T f = no' T f.at:=by rw [tg_no hk];rfl
        have k2 : AsgL T R .nil f (at' m) (F.nil.app f) (no' T f.at):=by
          have:=AsgL.last (T:=T) (R:=R) (a:=.nil) (e:=f) (s:=at' m) (m1f m) (by rw [e1,no_c hp];decide)
          rw [e1] at this;exact this
        exact fS hp k1 hcc k2 (by rw [no_need hp 14 (by decide)];exact fl_lst hR hp)
    · next h1415 =>
      have hcc : (at' m).c ≠ 14 ∧ (at' m).c ≠ 15:=by rw [hcm];exact ⟨fun h=>h1415 (.inl h),fun h=>h1415 (.inr h)⟩
      split
      · next hk =>
        have:=hR _ _ _ _ (Stp.prn (p:=ha l) k1 hcc hk)
        rw [← hat] at this ⊢
        exact this
      · next hk =>
        refine ⟨ha_nn m,one 23 [] 0 (ha l) f,?_⟩
        have:=hR _ _ _ _ (Stp.prb (p:=ha l) k1 hcc hk)
        rw [at_t] at this
        exact this
  · refine ⟨one 23 [] 0 (ha l) f,?_⟩
    by_cases hk : f.kind = 8
    · exact hR _ _ _ _ (.prn k1 ⟨by rw [no_c hp];decide,by rw [no_c hp];decide⟩ hk)
    · have:=hR _ _ _ _ (Stp.prb (p:=ha l) k1 ⟨by rw [no_c hp];decide,by rw [no_c hp];decide⟩ hk)
      rw [no_bad hp] at this
      exact this
theorem kr_stat {l : List Tok} (hl : Ends l) : Oc T (R (.stat (ha l)) (at' l)) (stp' (pr n) .stat l):=by
  have hcc:=at_c l hl.ne
  have hf0:=m1f l
  simp only [stp']
  split
  · next h=>exact kr_body hR ih hl (fun b m _ hb=>hR _ _ _ _ (.sdo hf0 (hcc.trans h) hb)) fun b p hp hb=>⟨_,hR _ _ _ _ (.sdo hf0 (hcc.trans h) hb)⟩
  · next h7 =>
    split
    · next h=>exact kr_while hR ih hl h
    · next h8 =>
      split
      · next h =>
        have hl1:=hl.tl (by rw [h];decide)
        exact .bind (ih (.ifs .nil) _ hl1) (fun f m _ hf=>hR _ _ _ _ (.sif hf0 (hcc.trans h) hf)) fun f p hp hf=>⟨_,hR _ _ _ _ (.sif hf0 (hcc.trans h) hf)⟩
      · next h9 =>
        split
        · next h=>exact kr_for hR ih hl h
        · next h10 =>
          split
          · next h=>exact kr_loc hR ih hl h
          · next h11 =>
            split
            · next h=>exact hR _ _ _ _ (.sbr hf0 (hcc.trans h))
            · next h12=>exact (kr_plain hR ih hl).mono fun g s hg=>hR _ _ _ _ (.spl hf0 (by rw [hcc];exact ⟨h7,h8,h9,h10,h11,h12⟩) hg)
omit hR ih in
theorem sm_at {m : List Tok} (hm : Ends m) : (at' m).sm = at' (if hc m = 1 then m.tail else m):=by
  unfold Sx.sm
  rw [at_c m hm.ne]
  split <;> rfl
omit hR ih in
theorem sm_no {p : Int} (hp : 0 ≤ p) : (no' T p).sm = no' T p:=by
  unfold Sx.sm
  rw [no_c hp];rfl
theorem kr_last (c : Bool) (a : F) {l : List Tok} (hl : Ends l) (h : hc l = 2) : Oc T (BkL T R c a (at' l)) ((lastP (pr n) l).bind fun f l=>.ok (a.app f) l):=by
  have hcc : (at' l).c = 2:=(at_c l hl.ne).trans h
  have hl1:=hl.tl (by rw [h];decide)
  have hc1:=at_c _ hl1.ne
  have et : (at' l).tl = at' l.tail:=rfl
  unfold lastP
  split
  · next h1 =>
    have:=BkL.ret0 (T:=T) (R:=R) (c:=c) (a:=a) hcc (.inr (hc1.trans h1))
    rw [et,sm_at hl1,if_pos h1,at_t] at this
    exact this
  · next h1 =>
    split
    · next h2 =>
      have hcl : (at' l.tail).cl:=by
        unfold closes at h2
        simp at h2
        unfold Sx.cl
        rw [hc1];exact h2
      have:=BkL.ret0 (T:=T) (R:=R) (c:=c) (a:=a) hcc (.inl hcl)
      rw [et,sm_at hl1,if_neg h1,at_t] at this
      exact this
    · next h2 =>
      have hcl : ¬ (at' l.tail).cl:=by
        unfold Sx.cl
        rw [hc1]
        intro x
        exact h2 (by unfold closes;simpa using x)
      rw [PR.bb]
      refine .bind (kr_lst hR ih hl1) (fun g m hx hg=>?_) fun g p hp hg=>?_
      · have hm:=pr_ends hx hl1
        have:=BkL.retN (T:=T) (R:=R) (c:=c) (a:=a) hcc hcl (by rw [et,hc1];exact h1) hg
        rw [sm_at hm,at_t] at this
        exact this
      · have:=BkL.retN (T:=T) (R:=R) (c:=c) (a:=a) hcc hcl (by rw [et,hc1];exact h1) hg
        rw [sm_no hp] at this
        exact ⟨_,this⟩
theorem kr_fn (a : F) {l : List Tok} (hl : Ends l) (h : hc l = 3) : Oc T (BkL T R true a (at' l)) ((funP (pr n) l).bind fun f l=>pr n (.bk true (a.app f)) l):=by
  have hcc : (at' l).c = 3:=(at_c l hl.ne).trans h
  have hl1:=hl.tl (by rw [h];decide)
  have stopN : ∀ {p : Int} (a : F),0 ≤ p → BkL T R true a (no' T p) a (no' T p):=fun a hp=>.stop (.inl (no_c hp))
  -- what follows a fault ahead of the block
  have fB : ∀ {ps : F} {s4 : Sx} {p : Int},0 ≤ p → ParL R (((at' l.tail).name T).needC T 17) ps s4 → s4.needC T 18 = no' T p → ∃ g,BkL T R true a (at' l) g (no' T p):=fun hp k1 e=>by
    obtain ⟨b,hb⟩:=fl_blk (T:=T) hR false hp
    exact ⟨_,.fn rfl hcc k1 (by rw [e];exact hb) (by rw [no_need hp 4 (by decide)];exact stopN _ hp)⟩
  have fP : ∀ {p : Int},0 ≤ p → ((at' l.tail).name T).needC T 17 = no' T p → ∃ g,BkL T R true a (at' l) g (no' T p):=fun hp e =>
    fB hp (ps:=noF) (s4:=no' T _) (by rw [e];exact .some (by rw [no_c hp];decide) (fl_nms hR hp)) (no_need hp 18 (by decide))
  unfold funP parP
  have hnam : ∀ (q : Int) (l : List Tok) (k : F → List Tok → PR) (k' : F → List Tok → PR),(nam q l k).bind k' = nam q l fun f l=>(k f l).bind k':=fun q l k k'=>by unfold nam;split <;> rfl
  have hned : ∀ (c : Nat) (l : List Tok) (k : List Tok → PR) (k' : F → List Tok → PR),(need c l k).bind k' = need c l fun l=>(k l).bind k':=fun c l k k'=>by unfold need;split <;> rfl
  rw [hnam]
  refine .nam hl1.ne (fun h51 e1 e2=>?_) fun p hp e1 e2=>fP hp (by rw [e2];exact no_need hp 17 (by decide))
  have hl2:=hl1.tl (by rw [h51];decide)
  rw [hned]
  refine kr_need hl2 (by decide) (fun h17 hl3 q1=>?_) fun p hp q1=>fP hp (by rw [e2];exact q1)
  have eN : ((at' l.tail).name T).needC T 17 = at' l.tail.tail.tail:=by rw [e2];exact q1
  rw [PR.bb]
  have hpar : Oc T (fun ps s=>ParL R (at' l.tail.tail.tail) ps s ∧ ∀ m,s = at' m → Ends m) (if hc l.tail.tail.tail = 18 then .ok .nil l.tail.tail.tail else nam 6 l.tail.tail.tail fun f l=>pr n (.nms f) l):=by
    split
    · next h18=>exact ⟨.none ((at_c _ hl3.ne).trans h18),fun m e=>by injection e with e _;rw [← e];exact hl3⟩
    · next h18 =>
      have hne : (at' l.tail.tail.tail).c ≠ 18:=by rw [at_c _ hl3.ne];exact h18
      refine .nam hl3.ne (fun h51 e3 e4=>?_) fun p hp e3 e4=>?_
      · have hl4:=hl3.tl (by rw [h51];decide)
        cases hx : pr n (.nms (one 6 (ht l.tail.tail.tail) 0 (ha l.tail.tail.tail) .nil)) l.tail.tail.tail.tail with
        | out=>trivial
        | ok ps m =>
          have k : Oc T _ (pr n (.nms (one 6 (ht l.tail.tail.tail) 0 (ha l.tail.tail.tail) .nil)) l.tail.tail.tail.tail):=ih (.nms (one 6 (ht l.tail.tail.tail) 0 (ha l.tail.tail.tail) .nil)) _ hl4
          rw [hx] at k
          exact ⟨.some hne (hR _ _ _ _ (.nms (by rw [e3,e4];exact k))),fun m' e=>by injection e with e _;rw [← e];exact pr_ends hx hl4⟩
        | bad p =>
          have k : Oc T _ (pr n (.nms (one 6 (ht l.tail.tail.tail) 0 (ha l.tail.tail.tail) .nil)) l.tail.tail.tail.tail):=ih (.nms (one 6 (ht l.tail.tail.tail) 0 (ha l.tail.tail.tail) .nil)) _ hl4
          rw [hx] at k
          obtain ⟨hp,f,hf⟩:=k
          exact ⟨hp,f,.some hne (hR _ _ _ _ (.nms (by rw [e3,e4];exact hf))),fun m e=>by injection e with _ e;omega⟩
      · exact ⟨noF,.some hne (hR _ _ _ _ (.nms (by rw [e3,e4];exact .stop (by rw [no_c hp];decide)))),fun m e=>by injection e with _ e;omega⟩
  refine .bind hpar (fun ps m _ ⟨k1,hE⟩=>?_) fun ps p hp ⟨k1,_⟩=>fB hp (by rw [eN];exact k1) (no_need hp 18 (by decide))
  have hm:=hE m rfl
  have k1 : ParL R (((at' l.tail).name T).needC T 17) ps (at' m):=by rw [eN];exact k1
  rw [hned]
  refine kr_need hm (by decide) (fun h18 hm2 q2=>?_) fun p hp q2=>fB hp k1 q2
  rw [PR.bb]
  refine .bind (ih (.blk false) _ hm2) (fun b m3 hx3 hb=>?_) fun b p hp hb=>?_
  · have hm3:=pr_ends hx3 hm2
    have hb : R (.blk false) ((at' m).needC T 18) b (at' m3):=by rw [q2];exact hb
    rw [hned]
    refine kr_need hm3 (by decide) (fun h4 hm4 q3=>?_) fun p hp q3=>⟨_,.fn rfl hcc k1 hb (by rw [q3];exact stopN _ hp)⟩
    refine (ih (.bk true _) _ hm4).mono fun g s hg=>.fn rfl hcc k1 hb ?_
    rw [q3,at_t,show (at' l).tl = at' l.tail from rfl,e1]
    exact hg
  · have hb : R (.blk false) ((at' m).needC T 18) b (no' T p):=by rw [q2];exact hb
    exact ⟨_,.fn rfl hcc k1 hb (by rw [no_need hp 4 (by decide)];exact stopN _ hp)⟩
theorem kr_bk (c : Bool) (a : F) {l : List Tok} (hl : Ends l) : Oc T (BkL T R c a (at' l)) (stp' (pr n) (.bk c a) l):=by
  have hcc:=at_c l hl.ne
  simp only [stp']
  split
  · next h=>exact (ih (.bk c a) _ (hl.tl (by rw [h];decide))).mono fun g s hg=>.semi (hcc.trans h) hg
  · next h1 =>
    split
    · next h=>exact kr_last hR ih c a hl h
    · next h2 =>
      split
      · next h =>
        obtain ⟨rfl,h⟩:=h
        exact kr_fn hR ih a hl h
      · next h3 =>
        split
        · next h =>
          refine .stop ?_
          unfold closes at h
          simp at h
          unfold Sx.cl
          rw [hcc];exact h
        · next h =>
          have hcl : ¬ (at' l).cl:=by
            unfold Sx.cl
            rw [hcc]
            intro x
            exact h (by unfold closes;simpa using x)
          refine .bind (ih .stat l hl) (fun f m hx hf=>?_) fun f p hp hf=>?_
          · have hm:=pr_ends hx hl
            refine (ih (.bk c _) m hm).mono fun g s hg=>.st hcl (by rw [hcc];exact h1) (by rw [hcc];exact h2) (by rw [hcc];exact h3) ?_ hg
            rw [at_t];exact hf
          · exact ⟨a.app f,.st hcl (by rw [hcc];exact h1) (by rw [hcc];exact h2) (by rw [hcc];exact h3) (f:=f) (by rw [at_t];exact hf) (.stop (.inl (no_c hp)))⟩
theorem kr_opd {l : List Tok} (hl : Ends l) : Oc T (R .opd (at' l)) (stp' (pr n) .opd l):=by
  have hcc:=at_c l hl.ne
  have hf0:=m1f l
  have ep:=at_t l
  have et:=at_tt l
  have ev:=at_tv l
  simp only [stp']
  split
  · next h=>exact (ih .suf l hl).mono fun g s hg=>hR _ _ _ _ (.osf hf0 (by rw [hcc];omega) hg)
  · split
    · next h =>
      have hl1:=hl.tl (by rw [h];decide)
      unfold tabP
      refine .bind (ih (.tab .nil) _ hl1) (fun f m hx hf=>?_) fun f p hp hf=>?_
      · have hm:=pr_ends hx hl1
        refine kr_need hm (by decide) (fun h23 hm2 q=>?_) fun p hp q=>?_
        · have:=hR _ _ _ _ (Stp.tab hf0 (hcc.trans h) hf)
          rw [q,ep] at this;exact this
        · have:=hR _ _ _ _ (Stp.tab hf0 (hcc.trans h) hf)
          rw [q] at this;exact ⟨_,this⟩
      · have:=hR _ _ _ _ (Stp.tab hf0 (hcc.trans h) hf)
        rw [no_need hp 23 (by decide)] at this;exact ⟨_,this⟩
    · split
      · next h =>
        have hl1:=hl.tl (by omega)
        refine .bind (ih .opd _ hl1) (fun f m hx hf=>?_) fun f p hp hf=>?_
        · have:=hR _ _ _ _ (Stp.una hf0 (by rw [hcc];exact h) (hR _ _ _ _ (.exp7 (m1f _) hf)))
          rw [ep,et] at this;exact this
        · exact ⟨_,hR _ _ _ _ (Stp.una hf0 (by rw [hcc];exact h) (hR _ _ _ _ (.exp7 (m1f _) hf)))⟩
      · split
        · next h=>have:=hR _ _ _ _ (Stp.num hf0 (hcc.trans h));rw [ep,ev] at this;exact this
        · split
          · next h=>have:=hR _ _ _ _ (Stp.str hf0 (hcc.trans h));rw [ep,et] at this;exact this
          · split
            · next h=>have:=hR _ _ _ _ (Stp.nil hf0 (hcc.trans h));rw [ep] at this;exact this
            · split
              · next h=>have:=hR _ _ _ _ (Stp.tru hf0 (hcc.trans h));rw [ep] at this;exact this
              · split
                · next h=>have:=hR _ _ _ _ (Stp.fls hf0 (hcc.trans h));rw [ep] at this;exact this
                · refine ⟨ha_nn l,?_⟩
                  have h51 : hc l ≠ 51:=by omega
                  have hn:=name_c (at' l)
                  rw [hcc] at hn
                  have e1 : (at' l).nm 6 = noF:=by unfold Sx.nm;rw [if_neg (fun x=>h51 (hn.1 x))]
                  have e2 : (at' l).name T = no' T (ha l):=by unfold Sx.name;rw [if_neg (fun x=>h51 (hn.1 x)),ep];rfl
                  have hs:=hR _ _ _ _ (Stp.snm (T:=T) (R:=R) (s:=at' l) (g:=noF) (s2:=no' T (ha l)) (by rw [hcc];omega) (by rw [e1,e2];exact fl_sufl (ha_nn l) _ _))
                  exact ⟨_,hR _ _ _ _ (.osf hf0 (by rw [hcc];omega) hs)⟩
theorem kr_suf {l : List Tok} (hl : Ends l) : Oc T (R .suf (at' l)) (stp' (pr n) .suf l):=by
  have hcc:=at_c l hl.ne
  have ep:=at_t l
  simp only [stp',stemP]
  have hned : ∀ (c : Nat) (l : List Tok) (k : List Tok → PR) (k' : F → List Tok → PR),(need c l k).bind k' = need c l fun l=>(k l).bind k':=fun c l k k'=>by unfold need;split <;> rfl
  have hnam : ∀ (q : Int) (l : List Tok) (k : F → List Tok → PR) (k' : F → List Tok → PR),(nam q l k).bind k' = nam q l fun f l=>(k f l).bind k':=fun q l k k'=>by unfold nam;split <;> rfl
  split
  · next h =>
    have hl1:=hl.tl (by rw [h];decide)
    rw [PR.bb]
    refine .bind (kr_ex ih hl1) (fun e m hx he=>?_) fun e p hp he=>?_
    · have hm:=pr_ends hx hl1
      rw [hned]
      refine kr_need hm (by decide) (fun h18 hm2 q=>?_) fun p hp q=>?_
      · refine (ih (.sufl _) _ hm2).mono fun g s hg=>hR _ _ _ _ (.spn (hcc.trans h) he ?_)
        rw [q,ep];exact hg
      · exact ⟨_,hR _ _ _ _ (.spn (hcc.trans h) he (by rw [q];exact fl_sufl hp _ _))⟩
    · exact ⟨_,hR _ _ _ _ (.spn (hcc.trans h) he (by rw [no_need hp 18 (by decide)];exact fl_sufl hp _ _))⟩
  · next h =>
    rw [hnam]
    refine .nam hl.ne (fun h51 e1 e2=>?_) fun p hp e1 e2=>?_
    · have hl1:=hl.tl (by rw [h51];decide)
      refine (ih (.sufl _) _ hl1).mono fun g s hg=>hR _ _ _ _ (.snm (by rw [hcc];exact h) ?_)
      rw [e1,e2,ep];exact hg
    · exact ⟨_,hR _ _ _ _ (.snm (by rw [hcc];exact h) (by rw [e1,e2];exact fl_sufl hp _ _))⟩
theorem kr_sufl (f : F) {l : List Tok} (hl : Ends l) : Oc T (SufL T R f.at f (at' l)) (stp' (pr n) (.sufl f) l):=by
  have hcc:=at_c l hl.ne
  have et : (at' l).tl = at' l.tail:=rfl
  simp only [stp',argP]
  split
  · next h =>
    have hl1:=hl.tl (by rw [h];decide)
    refine .bind (kr_ex ih hl1) (fun k m hx hk=>?_) fun k p hp hk=>?_
    · have hm:=pr_ends hx hl1
      refine kr_need hm (by decide) (fun h20 hm2 q=>?_) fun p hp q=>⟨_,.idx (hcc.trans h) hk (by rw [q];exact fl_sufl hp _ _)⟩
      exact (ih (.sufl _) _ hm2).mono fun g s hg=>.idx (hcc.trans h) hk (by rw [q];exact hg)
    · exact ⟨_,.idx (hcc.trans h) hk (by rw [no_need hp 20 (by decide)];exact fl_sufl hp _ _)⟩
  · next h19 =>
    split
    · next h =>
      have hl1:=hl.tl (by rw [h];decide)
      refine .nam hl1.ne (fun h51 e1 e2=>?_) fun p hp e1 e2=>?_
      · have hl2:=hl1.tl (by rw [h51];decide)
        exact (ih (.sufl _) _ hl2).mono fun g s hg=>.dot (hcc.trans h) (by rw [et,e1,e2];exact hg)
      · exact ⟨_,.dot (hcc.trans h) (by rw [et,e1,e2];exact fl_sufl hp _ _)⟩
    · next h21 =>
      split
      · next h =>
        have hl1:=hl.tl (by rw [h];decide)
        have hc1:=at_c _ hl1.ne
        split
        · next h18 =>
          have hl2:=hl1.tl (by rw [h18];decide)
          exact (ih (.sufl _) _ hl2).mono fun g s hg=>.call0 (hcc.trans h) (hc1.trans h18) hg
        · next h18 =>
          rw [lst_acc0,PR.bb,PR.bb]
          refine .bind (kr_lst hR ih hl1) (fun g m hx hg=>?_) fun g p hp hg=>?_
          · have hm:=pr_ends hx hl1
            have hned : ∀ (c : Nat) (l : List Tok) (k : List Tok → PR) (k' : F → List Tok → PR),(need c l k).bind k' = need c l fun l=>(k l).bind k':=fun c l k k'=>by unfold need;split <;> rfl
            show Oc T _ ((need 18 m fun l=>.ok (f.app g) l).bind _)
            rw [hned]
            refine kr_need hm (by decide) (fun h18' hm2 q=>?_) fun p hp q=>⟨_,.callN (hcc.trans h) (by rw [et,hc1];exact h18) hg (by rw [q];exact fl_sufl hp _ _)⟩
            exact (ih (.sufl _) _ hm2).mono fun g' s hg'=>.callN (hcc.trans h) (by rw [et,hc1];exact h18) hg (by rw [q];exact hg')
          · exact ⟨_,.callN (hcc.trans h) (by rw [et,hc1];exact h18) hg (by rw [no_need hp 18 (by decide)];exact fl_sufl hp _ _)⟩
      · next h17=>exact .stop (by rw [hcc];exact h19) (by rw [hcc];exact h21) (by rw [hcc];exact h17)
omit hR in
theorem kr_tab (a : F) {l : List Tok} (hl : Ends l) : Oc T (TabL R a (at' l)) (stp' (pr n) (.tab a) l):=by
  have hcc:=at_c l hl.ne
  simp only [stp']
  split
  · next h=>exact .stop (.inl (hcc.trans h))
  · next h =>
    refine .bind (ih .fld l hl) (fun f m hx hf=>?_) fun f p hp hf=>⟨_,.last (m1f l) (by rw [hcc];exact h) hf (by rw [no_c hp];decide) (by rw [no_c hp];decide)⟩
    have hm:=pr_ends hx hl
    have hcm:=at_c m hm.ne
    split
    · next h2=>exact (ih (.tab _) _ (hm.tl (by omega))).mono fun g s hg=>.more (m1f l) (by rw [hcc];exact h) hf (by rw [hcm];exact h2) hg
    · next h2=>exact .last (m1f l) (by rw [hcc];exact h) hf (by rw [hcm];omega) (by rw [hcm];omega)
theorem kr_fld {l : List Tok} (hl : Ends l) : Oc T (R .fld (at' l)) (stp' (pr n) .fld l):=by
  have hcc:=at_c l hl.ne
  have ep:=at_t l
  have hf0:=m1f l
  simp only [stp']
  split
  · next h =>
    have hl1:=hl.tl (by rw [h];decide)
    have fE : ∀ {k : F} {s1 : Sx} {p : Int},0 ≤ p → R (.exp 1) (at' l).tl k s1 → (s1.needC T 20).needC T 14 = no' T p → ∃ g,R .fld (at' l) g (no' T p):=fun hp k1 e=>⟨_,hR _ _ _ _ (.fbr hf0 (hcc.trans h) k1 (by rw [e];exact fl_exp hR 1 hp))⟩
    refine .bind (kr_ex ih hl1) (fun k m hx hk=>?_) fun k p hp hk=>fE hp hk (by rw [no_need hp 20 (by decide),no_need hp 14 (by decide)])
    have hm:=pr_ends hx hl1
    refine kr_need hm (by decide) (fun h20 hm2 q=>?_) fun p hp q=>fE hp hk (by rw [q,no_need hp 14 (by decide)])
    refine kr_need hm2 (by decide) (fun h14 hm3 q2=>?_) fun p hp q2=>fE hp hk (by rw [q,q2])
    refine .bind (kr_ex ih hm3) (fun v m2 hx2 hv=>?_) fun v p hp hv=>⟨_,hR _ _ _ _ (.fbr hf0 (hcc.trans h) hk (by rw [q,q2];exact hv))⟩
    have:=hR _ _ _ _ (Stp.fbr hf0 (hcc.trans h) hk (by rw [q,q2];exact hv))
    rw [ep] at this;exact this
  · next h19 =>
    split
    · next h =>
      have hl1:=hl.tl (by rw [h.1];decide)
      have hl2:=hl1.tl (by rw [h.2];decide)
      have hn:=name_c (at' l)
      rw [hcc] at hn
      have e1 : (at' l).nm 5 = one 5 (ht l) 0 (ha l) .nil:=by unfold Sx.nm;rw [if_pos (hn.2 h.1),at_tt,at_t]
      refine .bind (kr_ex ih hl2) (fun v m hx hv=>?_) fun v p hp hv=>⟨_,hR _ _ _ _ (.fnm hf0 (hcc.trans h.1) ((at_c _ hl1.ne).trans h.2) hv)⟩
      have:=hR _ _ _ _ (Stp.fnm (T:=T) hf0 (hcc.trans h.1) ((at_c _ hl1.ne).trans h.2) hv)
      rw [ep,e1] at this;exact this
    · next h =>
      have hno : ¬ ((at' l).c = 51 ∧ (at' l).tl.c = 14):=fun x=>by
        have h51:=hcc.symm.trans x.1
        have hl1:=hl.tl (by rw [h51];decide)
        exact h ⟨h51,(at_c _ hl1.ne).symm.trans x.2⟩
      refine .bind (kr_ex ih hl) (fun v m hx hv=>?_) fun v p hp hv=>⟨_,hR _ _ _ _ (.fit hf0 (by rw [hcc];exact h19) hno hv)⟩
      have:=hR _ _ _ _ (Stp.fit (T:=T) hf0 (by rw [hcc];exact h19) hno hv)
      rw [ep] at this;exact this
theorem kr_ifs (a : F) {l : List Tok} (hl : Ends l) : Oc T (IfsL T R a (at' l)) (stp' (pr n) (.ifs a) l):=by
  simp only [stp',brP]
  have hned : ∀ (c : Nat) (l : List Tok) (k : List Tok → PR) (k' : F → List Tok → PR),(need c l k).bind k' = need c l fun l=>(k l).bind k':=fun c l k k'=>by unfold need;split <;> rfl
  have fB : ∀ {e : F} {s1 : Sx} {p : Int},0 ≤ p → R (.exp 1) (at' l) e s1 → s1.needC T 13 = no' T p → ∃ g,IfsL T R a (at' l) g (no' T p):=fun hp k1 e=>by
    obtain ⟨b,hb⟩:=fl_blk (T:=T) hR false hp
    have:=IfsL.done (T:=T) (R:=R) (a:=a) k1 (by rw [e];exact hb) (by rw [no_c hp];decide) (by rw [no_c hp];decide)
    rw [no_need hp 4 (by decide)] at this
    exact ⟨_,this⟩
  rw [PR.bb]
  refine .bind (kr_ex ih hl) (fun e m hx he=>?_) fun e p hp he=>fB hp he (no_need hp 13 (by decide))
  have hm:=pr_ends hx hl
  rw [hned]
  refine kr_need hm (by decide) (fun h13 hm2 q=>?_) fun p hp q=>fB hp he q
  rw [PR.bb]
  refine .bind (ih (.blk false) _ hm2) (fun b m3 hx3 hb=>?_) fun b p hp hb=>?_
  · have hm3:=pr_ends hx3 hm2
    have hc3:=at_c m3 hm3.ne
    have hb : R (.blk false) ((at' m).needC T 13) b (at' m3):=by rw [q];exact hb
    show Oc T _ (if hc m3 = 6 then _ else _)
    split
    · next h6=>exact (ih (.ifs _) _ (hm3.tl (by rw [h6];decide))).mono fun g s hg=>.elif he hb (hc3.trans h6) hg
    · next h6 =>
      split
      · next h5 =>
        have hm4:=hm3.tl (by rw [h5];decide)
        refine .bind (ih (.blk false) _ hm4) (fun b2 m5 hx5 hb2=>?_) fun b2 p hp hb2=>?_
        · have hm5:=pr_ends hx5 hm4
          refine kr_need hm5 (by decide) (fun h4 hm6 q2=>?_) fun p hp q2=>?_
          · have:=IfsL.els (T:=T) (R:=R) (a:=a) he hb (hc3.trans h5) hb2
            rw [q2] at this;exact this
          · have:=IfsL.els (T:=T) (R:=R) (a:=a) he hb (hc3.trans h5) hb2
            rw [q2] at this;exact ⟨_,this⟩
        · have:=IfsL.els (T:=T) (R:=R) (a:=a) he hb (hc3.trans h5) hb2
          rw [no_need hp 4 (by decide)] at this;exact ⟨_,this⟩
      · next h5 =>
        have:=IfsL.done (T:=T) (R:=R) (a:=a) he hb (by rw [hc3];exact h6) (by rw [hc3];exact h5)
        refine kr_need hm3 (by decide) (fun h4 hm6 q2=>?_) fun p hp q2=>?_
        · rw [q2] at this;exact this
        · rw [q2] at this;exact ⟨_,this⟩
  · have:=IfsL.done (T:=T) (R:=R) (a:=a) he (by rw [q];exact hb) (by rw [no_c hp];decide) (by rw [no_c hp];decide)
    rw [no_need hp 4 (by decide)] at this
    exact ⟨_,this⟩
omit hR in
theorem kr_asg (a a' e : F) (hae : a = a'.app e) (hk : e.kind = 6 ∨ e.kind = 7) {l : List Tok} (hl : Ends l) : Oc T (AsgL T R a' e (at' l)) (stp' (pr n) (.asg a) l):=by
  have hcc:=at_c l hl.ne
  have eg : (at' l).tg T e = at' l:=tg_ok hk
  simp only [stp']
  split
  · next h =>
    have hl1:=hl.tl (by rw [h];decide)
    have c15 : ((at' l).tg T e).c = 15:=by rw [eg,hcc];exact h
    refine .bind (ih .suf _ hl1) (fun f m hx hf=>?_) fun f p hp hf=>⟨_,.more (m1f l) c15 (by rw [eg];exact hf) (.stop hp)⟩
    have hm:=pr_ends hx hl1
    have hf : R .suf ((at' l).tg T e).tl f (at' m):=by rw [eg];exact hf
    unfold tgt
    split
    · next hk2 =>
      exact (ih (.asg (a.app f)) m hm a f rfl hk2).mono fun g s hg=>.more (m1f l) c15 hf (by rw [← hae];exact hg)
    · next hk2 =>
      have hat:=suf_at n _ f m hx
      have hp : 0 ≤ f.at:=by rw [hat];exact ha_nn _
      have e1 : (at' m).tg T f = no' T f.at:=by rw [tg_no hk2];rfl
      have k2:=AsgL.last (T:=T) (R:=R) (a:=a'.app e) (e:=f) (s:=at' m) (m1f m) (by rw [e1,no_c hp];decide)
      rw [e1] at k2
      exact ⟨hp,_,.more (m1f l) c15 hf k2⟩
  · next h =>
    have:=AsgL.last (T:=T) (R:=R) (a:=a') (e:=e) (s:=at' l) (m1f l) (by rw [eg,hcc];exact h)
    rw [eg,← hae] at this
    exact this
theorem kr_ex0 (a : Nat) (ha6 : a ≤ 6) {l : List Tok} (hl : Ends l) : Oc T (R (.exp (a + 1)) (at' l)) (stp' (pr n) (.ex a) l):=by
  refine .bind (ih .opd l hl) (fun f m hx hf=>?_) fun f p hp hf=>?_
  · have hm:=pr_ends hx hl
    refine (ih (.exl a f) m hm ha6).mono fun g s hg=>?_
    have:=ch_exp hR (m1f l) (hR _ _ _ _ (.exp7 (m1f l) hf)) (6 - a) g s (by omega) hg
    rw [show 7 - (6 - a) = a + 1 by omega] at this
    exact this
  · have:=ch_exp hR (m1f l) (hR _ _ _ _ (.exp7 (m1f l) hf)) (6 - a) f (no' T p) (by omega) (ch_stop (6 - a) f (no' T p) (by omega) (by rw [no_c hp];show 0 + _ ≤ _;omega))
    rw [show 7 - (6 - a) = a + 1 by omega] at this
    exact ⟨f,this⟩
omit hR in
theorem kr_exl (a : Nat) (ha6 : a ≤ 6) (f : F) {l : List Tok} (hl : Ends l) : Oc T (ChL R (6 - a) f (at' l)) (stp' (pr n) (.exl a f) l):=by
  have hcc:=at_c l hl.ne
  have hb6:=bnd_le (hc l)
  simp only [stp']
  split
  · next h =>
    have hl1:=hl.tl (by intro e;rw [e] at h;exact absurd h (Nat.not_lt_zero a))
    obtain ⟨b,hb⟩ : ∃ b,bnd (hc l) = b:=⟨_,rfl⟩
    rw [hb] at h hb6 ⊢
    have hR1 : ∀ (m : F) (s2 : Sx),R (.exp ((if b = 4 then 3 else b) + 1)) (at' l.tail) m s2 → R (.exp (if b = 4 then 4 else b + 1)) (at' l).tl m s2:=fun m s2 k=>by
      by_cases h4 : b = 4
      · rw [if_pos h4] at k ⊢;exact k
      · rw [if_neg h4] at k ⊢;exact k
    refine .bind (ih (.ex (if b = 4 then 3 else b)) _ hl1 (by split <;> omega)) (fun m m1 hx hm=>?_) fun m p hp hm=>?_
    · have hm1:=pr_ends hx hl1
      have hst:=ex_stop n _ _ _ _ hx
      have h1:=hR1 m _ hm
      refine (ih (.exl a _) m1 hm1 ha6).mono fun g s hg=>?_
      exact ch_op (by omega) hb6 (by rw [hcc];exact hb) (by rw [at_c m1 hm1.ne];by_cases h4 : b = 4 <;> simp [h4] at hst ⊢ <;> omega) (by rw [at_tt]) h1 (6 - a) g s (by omega) (by omega) hg
    · have h1:=hR1 m _ hm
      exact ⟨_,ch_op (by omega) hb6 (by rw [hcc];exact hb) (by rw [no_c hp];exact Nat.zero_le _) rfl h1 (6 - a) _ _ (by omega) (by omega) (ch_stop _ _ _ (by omega) (by rw [no_c hp];show 0 + _ ≤ _;omega))⟩
  · next h=>exact ch_stop _ _ _ (by omega) (by rw [hcc];omega)
end
theorem kr_all {T : List Tok} {R : RJ → Sx → F → Sx → Prop} (hR : ∀ j s f s',Stp T R j s f s' → R j s f s') : ∀ (n : Nat) (j : J) (l : List Tok),Ends l → Kj T R n j l
  | 0,j,_,_=>by
    cases j with
    | asg a=>exact fun _ _ _ _=>trivial
    | ex a=>exact fun _=>trivial
    | exl a f=>exact fun _=>trivial
    | _=>trivial
  | n + 1,j,l,hl=>by
    have ih:=kr_all hR n
    cases j with
    | blk c=>exact kr_blk hR ih c hl
    | bk c a=>exact kr_bk hR ih c a hl
    | stat=>exact kr_stat hR ih hl
    | lst a =>
      refine Oc.bind (kr_ex ih hl) (fun f m hx hf=>?_) fun f p hp hf=>⟨_,f,_,hf,.stop (by rw [no_c hp];decide)⟩
      have hm:=pr_ends hx hl
      have hcm:=at_c m hm.ne
      show Oc T _ (if hc m = 15 then _ else _)
      split
      · next h=>exact Oc.mono (ih (.lst _) _ (hm.tl (by rw [h];decide))) fun g s ⟨f2,s2,k1,k2⟩=>⟨f,_,hf,.more (hcm.trans h) k1 k2⟩
      · next h=>exact ⟨f,_,hf,.stop (by rw [hcm];exact h)⟩
    | nms a =>
      have hcc:=at_c l hl.ne
      show Oc T _ (if hc l = 15 then _ else _)
      split
      · next h =>
        have hl1:=hl.tl (by rw [h];decide)
        refine .nam hl1.ne (fun h51 e1 e2=>?_) fun p hp e1 e2=>?_
        · have hl2:=hl1.tl (by rw [h51];decide)
          exact Oc.mono (ih (.nms _) _ hl2) fun g s hg=>.more (hcc.trans h) (by rw [show (at' l).tl = at' l.tail from rfl,e1,e2];exact hg)
        · exact ⟨_,.more (hcc.trans h) (by rw [show (at' l).tl = at' l.tail from rfl,e1,e2];exact .stop (by rw [no_c hp];decide))⟩
      · next h=>exact .stop (by rw [hcc];exact h)
    | ifs a=>exact kr_ifs hR ih a hl
    | asg a=>exact fun a' e hae hk=>kr_asg ih a a' e hae hk hl
    | ex a=>exact fun ha6=>kr_ex0 hR ih a ha6 hl
    | exl a f=>exact fun ha6=>kr_exl ih a ha6 f hl
    | opd=>exact kr_opd hR ih hl
    | suf=>exact kr_suf hR ih hl
    | sufl f=>exact kr_sufl hR ih f hl
    | tab a=>exact kr_tab ih a hl
    | fld=>exact kr_fld hR ih hl
end Go.Proofs.YtlgkfhipobdcfaaGreatDoor

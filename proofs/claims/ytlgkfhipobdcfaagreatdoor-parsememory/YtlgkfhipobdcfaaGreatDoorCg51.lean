import Derived.Test.YtlgkfhipobdcfaaGreatDoorCg10
import Derived.Test.YtlgkfhipobdcfaaGreatDoorCg31
import Derived.Test.YtlgkfhipobdcfaaGreatDoorCg50
namespace Go.Proofs.YtlgkfhipobdcfaaGreatDoor
open Go.RowKit
inductive SkR (w : World) (P : Nat → Prop) : Option Addr → Nat → F → Prop
  | nil (a : Option Addr) (i : Nat) : SkR w P a i .nil
  | cons {g i : Nat} {cur : Array Value} {a' : Option Addr} {c' : Nat} {k : Int} {t : List UInt8} {n p : Int} {ks r : F} (hP : P g) (hb : w.heap[g]? = some (.cells cur 24)) (hc : cur[i * 5 + 4]? = some (.slice a' ks.len c')) (hl : ks.len ≤ maxLen) (hk : SkR w P a' 0 ks) (hr : SkR w P (some ⟨g,0,none⟩) (i + 1) r) : SkR w P (some ⟨g,0,none⟩) i (.cons k t n p ks r)
structure Md (P : Nat → Prop) (w w' : World) : Prop where
  ky : Ky P w w'
  blk : ∀ (g : Nat) (cur : Array Value),P g → w.heap[g]? = some (.cells cur 24) → ∃ cur' : Array Value,w'.heap[g]? = some (.cells cur' 24) ∧ cur'.size = cur.size ∧ ∀ j : Nat,j % 5 = 4 → cur'[j]? = cur[j]?
theorem Md.refl (P : Nat → Prop) (w : World) : Md P w w:=⟨Ky.refl _ _,fun _ cur _ h=>⟨cur,h,rfl,fun _ _=>rfl⟩⟩
theorem Md.trans {P : Nat → Prop} {x y z : World} (h : Md P x y) (k : Md P y z) : Md P x z :=
  ⟨h.ky.trans k.ky,fun g cur hP hb=>by
    obtain ⟨c1,h1,s1,e1⟩:=h.blk g cur hP hb
    obtain ⟨c2,h2,s2,e2⟩:=k.blk g c1 hP h1
    exact ⟨c2,h2,s2.trans s1,fun j hj=>(e2 j hj).trans (e1 j hj)⟩⟩
theorem Md.set {P : Nat → Prop} {b o : Nat} {x y : World} (h : Md P x y) (hb : P b) (ho : o % 5 ≠ 4) (u : Value) : Md P x (y.setCell ⟨b,o,none⟩ u) :=
  ⟨h.ky.setCell hb u,fun g cur hP hg=>by
    obtain ⟨c1,h1,s1,e1⟩:=h.blk g cur hP hg
    by_cases e : g = b
    · subst e
      refine ⟨c1.setIfInBounds o u,heap_setCell_same y g o c1 24 u h1,by simpa using s1,fun j hj=>?_⟩
      rw [← e1 j hj,Array.getElem?_setIfInBounds,if_neg (fun e=>ho (by rw [e];exact hj))]
    · exact ⟨c1,(Below.heap_setCell y _ u g e).trans h1,s1,e1⟩⟩
theorem SkR.md {w w' : World} {P : Nat → Prop} {a : Option Addr} {i : Nat} {r : F} (h : SkR w P a i r) (k : Md P w w') : SkR w' P a i r:=by
  induction h with
  | nil a i=>exact .nil a i
  | cons hP hb hc hl _ _ i1 i2 =>
    obtain ⟨c1,h1,s1,e1⟩:=k.blk _ _ hP hb
    exact .cons hP h1 ((e1 _ (by omega)).trans hc) hl i1 i2
theorem F.len_zero {f : F} (h : f.len = 0) : f = .nil:=by
  cases f with
  | nil=>rfl
  | cons k t n p ks r=>simp only [F.len] at h;omega
theorem KF.skr {w : World} {P : Nat → Prop} {xs : List Value} {r : F} (h : KF 24 w P xs r) : ∀ (g i : Nat) (cur : Array Value),P g → w.heap[g]? = some (.cells cur 24) → (∀ j u,xs[j]? = some u → cur[i * 5 + j]? = some u) → SkR w P (some ⟨g,0,none⟩) i r:=by
  induction h with
  | nil=>exact fun g i cur _ _ _=>.nil _ _
  | @cons k t n p v xs rest ks r own hP hk hr i1 i2 =>
    intro g i cur hg hb hx
    have h4:=hx 4 v rfl
    have hrest : SkR w P (some ⟨g,0,none⟩) (i + 1) r:=i2 g (i + 1) cur hg hb fun j u hu=>by
      have:=hx (j + 5) u (by simpa using hu)
      rw [show (i + 1) * 5 + j = i * 5 + (j + 5) by omega]
      exact this
    rcases own.2 with ⟨rfl,h0⟩ | ⟨g',cap,cur',rfl,h2,h3,r1,r2,r3,r4⟩
    · have:=F.len_zero h0
      subst this
      exact .cons hg hb h4 (Nat.zero_le _) (.nil _ _) hrest
    · refine .cons hg hb h4 (Nat.le_trans r1 r2) (i1 g' 0 cur' (hP g' rfl) h3 fun j u hu=>?_) hrest
      rw [← r4,List.getElem?_take] at hu
      split at hu
      · rw [Nat.zero_mul,Nat.zero_add];simpa using hu
      · cases hu
theorem TN.skr {w : World} {P : Nat → Prop} {k : Int} {t : List UInt8} {n p : Int} {a : Option Addr} {c : Nat} {ks : F} (h : TN 24 w P k t n p (.slice a ks.len c) ks) : SkR w P a 0 ks:=by
  obtain ⟨h1,xs,own,hk⟩:=h.out
  rcases own.2 with ⟨e1,h0⟩ | ⟨g',cap,cur',e1,h2,h3,r1,r2,r3,r4⟩
  · rw [F.len_zero h0];exact .nil _ _
  · injection e1 with e1 e2 e3
    subst e1
    refine hk.skr g' 0 cur' (h1 g' rfl) h3 fun j u hu=>?_
    rw [← r4,List.getElem?_take] at hu
    split at hu
    · rw [Nat.zero_mul,Nat.zero_add];simpa using hu
    · cases hu
set_option maxRecDepth 20000 in
set_option maxHeartbeats 4000000 in
theorem mark_any : ∀ (N : Nat) (ks : F),ks.siz ≤ N → ks.len ≤ maxLen → ∀ (w : World) (P : Nat → Prop) (g o : Nat) (cur : Array Value) (a : Option Addr) (c : Nat),P g → o % 5 = 0 → w.heap[g]? = some (.cells cur 24) → cur[o + 4]? = some (.slice a ks.len c) → SkR w P a 0 ks →
    Calls Tryz.prog 19 #[.pointer (some ⟨g,o,none⟩)] w fun e w'=>e = .returned (.tuple #[]) ∧ Md P w w':=by
  intro N
  induction N using Nat.strongRecOn with
  | _ N IH =>
    intro ks hs hN w P g o cur a c hP ho hb h4 hR
    have hl : ks.len ≤ 9223372036854775807:=hN
    have hsz : o + 4 < cur.size:=(Array.getElem?_eq_some_iff.1 h4).1
    have B0 : Bx g 24 cur w:=⟨hb⟩
    have f0:=B0.f o
    have f1:=B0.f (o + 1)
    have f2:=B0.f (o + 2)
    have f3:=B0.f (o + 3)
    have c0 : w.cell? ⟨g,o,none⟩ = some cur[o]:=B0.c _ _ (Array.getElem?_eq_getElem (by omega))
    have c1 : w.cell? ⟨g,o + 1,none⟩ = some cur[o + 1]:=B0.c _ _ (Array.getElem?_eq_getElem (by omega))
    have c2 : w.cell? ⟨g,o + 2,none⟩ = some cur[o + 2]:=B0.c _ _ (Array.getElem?_eq_getElem (by omega))
    have c3 : w.cell? ⟨g,o + 3,none⟩ = some cur[o + 3]:=B0.c _ _ (Array.getElem?_eq_getElem (by omega))
    have c4 : w.cell? ⟨g,o + 4,none⟩ = some (.slice a ks.len c):=B0.c _ _ h4
    have M1 : Md P w ((((w.setCell ⟨g,o,none⟩ (.int .i64 99)).setCell ⟨g,o + 1,none⟩ (.string ⟨#[33]⟩)).setCell ⟨g,o + 2,none⟩ (.int .i64 (-7))).setCell ⟨g,o + 3,none⟩ (.int .i64 (-7))):=((((Md.refl P w).set hP (by omega) _).set hP (by omega) _).set hP (by omega) _).set hP (by omega) _
    have HM1 : Hid (Md P w ((((w.setCell ⟨g,o,none⟩ (.int .i64 99)).setCell ⟨g,o + 1,none⟩ (.string ⟨#[33]⟩)).setCell ⟨g,o + 2,none⟩ (.int .i64 (-7))).setCell ⟨g,o + 3,none⟩ (.int .i64 (-7)))):=M1
    clear M1
    go_enter Tryz.func19,Tryz.ntmps19
    go_wp2_with fail
    clear c0 c1 c2 c3 c4 f0 f1 f2 f3
    go_loopw [2] (fun iv wx=>∃ (i : Nat) (r : F),iv = .int .i64 (i : Nat) ∧ i + r.len = ks.len ∧ Hid (r.siz ≤ ks.siz ∧ SkR wx P a i r ∧ Md P w wx)) (fun iv _=>ks.len - (intOf iv).toNat)
    case atStart=>exact ⟨0,ks,rfl,by omega,Nat.le_refl _,hR.md HM1.out,HM1.out⟩
    case round =>
      obtain ⟨i,r,rfl,hi,HR⟩:=hrel
      obtain ⟨cur2,hb2,hs2,he2⟩:=HR.out.2.2.blk g cur hP hb
      have B2 : Bx g 24 cur2 wr:=⟨hb2⟩
      have c4 : wr.cell? ⟨g,o + 4,none⟩ = some (.slice a ks.len c):=B2.c _ _ ((he2 _ (by omega)).trans h4)
      have HB2 : Hid (Bx g 24 cur2 wr):=B2
      clear hb2 B2 HM1
      cases r with
      | nil =>
        have h1 : ¬ (i : Int) < (ks.len : Int):=by simp only [F.len] at hi;omega
        go_wp2
        go_end0
        exact ⟨rfl,HR.out.2.2⟩
      | cons k' t' n' p' ks' r' =>
        simp only [F.len] at hi
        obtain ⟨hz,hr,hm⟩:=HR.out
        simp only [F.siz] at hz
        cases hr with
        | @cons g' _ cur' a' c' _ _ _ _ _ _ hP' hb' hc' hl' hk' hr' =>
        have h1 : (i : Int) < (ks.len : Int):=by omega
        have wi : IntKind.i64.wrap ((i : Int) + 1) = (i : Int) + 1:=by rw [IntKind.wrap_i64];omega
        have C:=IH ks'.siz (by omega) ks' (Nat.le_refl _) hl' wr P g' (i * 5) cur' a' c' hP' (by omega) hb' hc' hk'
        have B3 : Bx g' 24 cur' wr:=⟨hb'⟩
        have HN : Hid (r'.siz ≤ ks.siz ∧ SkR wr P (some ⟨g',0,none⟩) (i + 1) r' ∧ Md P w wr):=⟨by omega,hr',hm⟩
        have hms : ks.len - (i + 1) < ks.len - i:=by omega
        clear hr' hk' hb' hc' HR hm
        go_wp2_with fail
        refine C.mono ?_;rintro e w3 ⟨rfl,M3⟩
        have HM3 : Hid (Md P wr w3):=M3
        clear C M3 c4
        go_wp2_with fail
        go_round
        case rel=>exact ⟨i + 1,r',by first | rfl | simp,by omega,HN.out.1,HN.out.2.1.md HM3.out,HN.out.2.2.trans HM3.out⟩
        case measure=>first | omega | (simp only [intOf];omega) | (simp;omega)
end Go.Proofs.YtlgkfhipobdcfaaGreatDoor


namespace Go.Proofs.YtlgkfhipobdcfaaGreatDoor
open Go.RowKit
theorem two_boxes (w : World) (E : TypeId) (cur : Array Value) (u0 u1 : Value) : Bx w.heap.size E cur ((w.alloc (.cells cur E)).alloc (.cells #[u0,u1] 27)) ∧ Bx (w.heap.size + 1) 27 #[u0,u1] ((w.alloc (.cells cur E)).alloc (.cells #[u0,u1] 27)) ∧ Below w.heap.size w ((w.alloc (.cells cur E)).alloc (.cells #[u0,u1] 27)) ∧ ((w.alloc (.cells cur E)).alloc (.cells #[u0,u1] 27)).heap.size = w.heap.size + 2:=by
  have e1 : (w.alloc (.cells cur E)).heap.size = w.heap.size + 1:=by simp
  have B2:=Bx.new (w.alloc (.cells cur E)) 27 #[u0,u1]
  rw [e1] at B2
  exact ⟨(Bx.new w E cur).alloc _,B2,((Below.refl _ w).alloc (Nat.le_refl _) _).alloc (by rw [e1];omega) _,by simp⟩
set_option maxRecDepth 20000 in
set_option maxHeartbeats 4000000 in
theorem memory_walk (s : ByteArray) (W : World) (hs : s.size ≤ 9223372036854775807) : Calls Tryz.prog 8 #[.string s] W fun e w'=>e = .returned (.bool true) ∧ Below W.heap.size W w':=by
  have C1:=fun w=>parse_any s w hs
  have C2:=fun w=>rparse_any s w hs
  obtain ⟨⟨f,cd,x⟩,hq⟩ : ∃ r,prT s.data.toList = r:=⟨_,rfl⟩
  rw [hq] at C1 C2
  simp only at C1 C2
  clear hq
  go_enter Tryz.func8,Tryz.ntmps8
  go_wp2_with fail
  refine (C1 W).mono ?_;rintro e w1 ⟨k,t,n,p,a1,c1,ks,rfl,he,hT,hB⟩
  subst he
  obtain ⟨X,hX⟩ : ∃ X,w1.heap.size = X:=⟨_,rfl⟩
  obtain ⟨b1,b2,kb,hz⟩:=two_boxes w1 24 #[.int .i64 k,.string ⟨t.toArray⟩,.int .i64 n,.int .i64 p,.slice a1 ks.len c1] (.int .i64 cd) (.int .i64 x)
  obtain ⟨V1,hV1⟩ : ∃ V1,(w1.alloc (.cells #[.int .i64 k,.string ⟨t.toArray⟩,.int .i64 n,.int .i64 p,.slice a1 ks.len c1] 24)).alloc (.cells #[.int .i64 cd,.int .i64 x] 27) = V1:=⟨_,rfl⟩
  rw [hV1] at b1 b2 kb hz
  have HV1 : Hid ((w1.alloc (.cells #[.int .i64 k,.string ⟨t.toArray⟩,.int .i64 n,.int .i64 p,.slice a1 ks.len c1] 24)).alloc (.cells #[.int .i64 cd,.int .i64 x] 27) = V1):=hV1
  rw [hX] at b1 b2 hz
  have hXW : W.heap.size ≤ X:=by have:=hB.size;omega
  have HS1 : Hid (Bx X 24 #[.int .i64 k,.string ⟨t.toArray⟩,.int .i64 n,.int .i64 p,.slice a1 ks.len c1] V1 ∧ Bx (X + 1) 27 #[.int .i64 cd,.int .i64 x] V1 ∧ TN 24 V1 (fun g=>W.heap.size ≤ g ∧ g < X) k t n p (.slice a1 ks.len c1) ks ∧ Below W.heap.size W V1 ∧ V1.heap.size = X + 2):=⟨b1,b2,(hT.mono (fun g hg hl=>⟨by first | exact hg | omega,by omega⟩)).below kb,hB.trans (kb.mono hB.size),hz⟩
  have hz1 : V1.heap.size = X + 2:=hz
  clear hT hB b1 b2 kb hz hV1
  go_wp2_with fail
  rw [HV1.out]
  clear HV1
  refine (C1 V1).mono ?_;rintro e w2 ⟨k2,t2,n2,p2,a2,c2,ks2,rfl,he,hT,hB⟩
  simp only [one,F.cons.injEq] at he
  obtain ⟨rfl,rfl,rfl,rfl,rfl,-⟩:=he
  obtain ⟨Y,hY⟩ : ∃ Y,w2.heap.size = Y:=⟨_,rfl⟩
  obtain ⟨b1,b2,kb,hz⟩:=two_boxes w2 24 #[.int .i64 k,.string ⟨t.toArray⟩,.int .i64 n,.int .i64 p,.slice a2 ks.len c2] (.int .i64 cd) (.int .i64 x)
  obtain ⟨V2,hV2⟩ : ∃ V2,(w2.alloc (.cells #[.int .i64 k,.string ⟨t.toArray⟩,.int .i64 n,.int .i64 p,.slice a2 ks.len c2] 24)).alloc (.cells #[.int .i64 cd,.int .i64 x] 27) = V2:=⟨_,rfl⟩
  rw [hV2] at b1 b2 kb hz
  have HV2 : Hid ((w2.alloc (.cells #[.int .i64 k,.string ⟨t.toArray⟩,.int .i64 n,.int .i64 p,.slice a2 ks.len c2] 24)).alloc (.cells #[.int .i64 cd,.int .i64 x] 27) = V2):=hV2
  rw [hY] at b1 b2 hz
  have KQ : Below V1.heap.size V1 V2:=hB.trans (kb.mono hB.size)
  have hXY : X + 2 ≤ Y:=by have:=hB.size;omega
  have KP : Below W.heap.size W V1:=HS1.out.2.2.2.1
  have HS2 : Hid (Bx X 24 #[.int .i64 k,.string ⟨t.toArray⟩,.int .i64 n,.int .i64 p,.slice a1 ks.len c1] V2 ∧ Bx (X + 1) 27 #[.int .i64 cd,.int .i64 x] V2 ∧ TN 24 V2 (fun g=>W.heap.size ≤ g ∧ g < X) k t n p (.slice a1 ks.len c1) ks ∧ Bx Y 24 #[.int .i64 k,.string ⟨t.toArray⟩,.int .i64 n,.int .i64 p,.slice a2 ks.len c2] V2 ∧ Bx (Y + 1) 27 #[.int .i64 cd,.int .i64 x] V2 ∧ TN 24 V2 (fun g=>X + 2 ≤ g ∧ g < Y) k t n p (.slice a2 ks.len c2) ks ∧ Below W.heap.size W V2 ∧ V2.heap.size = Y + 2):=⟨(HS1.out.1).below KQ,(HS1.out.2.1).below KQ,(HS1.out.2.2.1).below KQ,b1,b2,(hT.mono (fun g hg hl=>⟨by first | exact hg | omega,by omega⟩)).below kb,KP.trans ((hB.trans (kb.mono hB.size)).mono KP.size),hz⟩
  have hz2 : V2.heap.size = Y + 2:=hz
  clear hT hB b1 b2 kb hz hV2 KQ KP HS1
  go_wp2_with fail
  rw [HV2.out]
  clear HV2
  refine (C2 V2).mono ?_;rintro e w3 ⟨k3,t3,n3,p3,a3,c3,ks3,rfl,he,hT,hB⟩
  simp only [one,F.cons.injEq] at he
  obtain ⟨rfl,rfl,rfl,rfl,rfl,-⟩:=he
  obtain ⟨Z,hZ⟩ : ∃ Z,w3.heap.size = Z:=⟨_,rfl⟩
  obtain ⟨b1,b2,kb,hz⟩:=two_boxes w3 32 #[.int .i64 k,.string ⟨t.toArray⟩,.int .i64 n,.int .i64 p,.slice a3 ks.len c3] (.int .i64 cd) (.int .i64 x)
  obtain ⟨V3,hV3⟩ : ∃ V3,(w3.alloc (.cells #[.int .i64 k,.string ⟨t.toArray⟩,.int .i64 n,.int .i64 p,.slice a3 ks.len c3] 32)).alloc (.cells #[.int .i64 cd,.int .i64 x] 27) = V3:=⟨_,rfl⟩
  rw [hV3] at b1 b2 kb hz
  have HV3 : Hid ((w3.alloc (.cells #[.int .i64 k,.string ⟨t.toArray⟩,.int .i64 n,.int .i64 p,.slice a3 ks.len c3] 32)).alloc (.cells #[.int .i64 cd,.int .i64 x] 27) = V3):=hV3
  rw [hZ] at b1 b2 hz
  have KQ : Below V2.heap.size V2 V3:=hB.trans (kb.mono hB.size)
  have hYZ : Y + 2 ≤ Z:=by have:=hB.size;omega
  have KP : Below W.heap.size W V2:=HS2.out.2.2.2.2.2.2.1
  have HS3 : Hid (Bx X 24 #[.int .i64 k,.string ⟨t.toArray⟩,.int .i64 n,.int .i64 p,.slice a1 ks.len c1] V3 ∧ Bx (X + 1) 27 #[.int .i64 cd,.int .i64 x] V3 ∧ TN 24 V3 (fun g=>W.heap.size ≤ g ∧ g < X) k t n p (.slice a1 ks.len c1) ks ∧ Bx Y 24 #[.int .i64 k,.string ⟨t.toArray⟩,.int .i64 n,.int .i64 p,.slice a2 ks.len c2] V3 ∧ Bx (Y + 1) 27 #[.int .i64 cd,.int .i64 x] V3 ∧ TN 24 V3 (fun g=>X + 2 ≤ g ∧ g < Y) k t n p (.slice a2 ks.len c2) ks ∧ Bx Z 32 #[.int .i64 k,.string ⟨t.toArray⟩,.int .i64 n,.int .i64 p,.slice a3 ks.len c3] V3 ∧ Bx (Z + 1) 27 #[.int .i64 cd,.int .i64 x] V3 ∧ TN 32 V3 (fun g=>Y + 2 ≤ g ∧ g < Z) k t n p (.slice a3 ks.len c3) ks ∧ Below W.heap.size W V3 ∧ V3.heap.size = Z + 2):=⟨(HS2.out.1).below KQ,(HS2.out.2.1).below KQ,(HS2.out.2.2.1).below KQ,(HS2.out.2.2.2.1).below KQ,(HS2.out.2.2.2.2.1).below KQ,(HS2.out.2.2.2.2.2.1).below KQ,b1,b2,(hT.mono (fun g hg hl=>⟨by first | exact hg | omega,by omega⟩)).below kb,KP.trans ((hB.trans (kb.mono hB.size)).mono KP.size),hz⟩
  have hz3 : V3.heap.size = Z + 2:=hz
  clear hT hB b1 b2 kb hz hV3 KQ KP HS2
  go_wp2_with fail
  rw [HV3.out]
  clear HV3
  refine (fixed_any V3).mono ?_;rintro e w4 ⟨rfl,hb4⟩
  obtain ⟨bX,bF,T1,bY,bG,T2,bZ,bH,T3,KW,-⟩:=HS3.out
  have bX4:=bX.below hb4
  have bF4:=bF.below hb4
  have T14:=T1.below hb4
  have bY4:=bY.below hb4
  have bG4:=bG.below hb4
  have T24:=T2.below hb4
  have bZ4:=bZ.below hb4
  have bH4:=bH.below hb4
  have T34:=T3.below hb4
  have KW4:=KW.trans (hb4.mono KW.size)
  clear bX bF T1 bY bG T2 bZ bH T3 KW HS3 C1 C2 hb4
  have u0 : w4.cell? ⟨X + 1,0,none⟩ = some (.int .i64 cd):=bF4.c 0 _ rfl
  have u1 : w4.cell? ⟨X + 1,1,none⟩ = some (.int .i64 x):=bF4.c 1 _ rfl
  have v0 : w4.cell? ⟨Y + 1,0,none⟩ = some (.int .i64 cd):=bG4.c 0 _ rfl
  have v1 : w4.cell? ⟨Y + 1,1,none⟩ = some (.int .i64 x):=bG4.c 1 _ rfl
  have y0 : w4.cell? ⟨Z + 1,0,none⟩ = some (.int .i64 cd):=bH4.c 0 _ rfl
  have y1 : w4.cell? ⟨Z + 1,1,none⟩ = some (.int .i64 x):=bH4.c 1 _ rfl
  have hnq : ∀ W,(binOp .neq 27 (.agg #[.int .i64 cd,.int .i64 x]) (.agg #[.int .i64 cd,.int .i64 x])).run Tryz.prog W = .ok (.bool false) W:=fun W=>by rw [neq27];simp
  have C5:=mark_any ks.siz ks (Nat.le_refl _) (Nat.le_trans T14.cap.1 T14.cap.2) w4 (fun g=>W.heap.size ≤ g ∧ g ≤ X) X 0 _ a1 c1 ⟨hXW,Nat.le_refl _⟩ rfl bX4.blk rfl (TN.skr (T14.mono fun g hg _=>⟨hg.1,by omega⟩))
  have HS4 : Hid (TN 24 w4 (fun g=>X + 2 ≤ g ∧ g < Y) k t n p (.slice a2 ks.len c2) ks ∧ TN 32 w4 (fun g=>Y + 2 ≤ g ∧ g < Z) k t n p (.slice a3 ks.len c3) ks ∧ Bx Y 24 #[.int .i64 k,.string ⟨t.toArray⟩,.int .i64 n,.int .i64 p,.slice a2 ks.len c2] w4 ∧ Bx Z 32 #[.int .i64 k,.string ⟨t.toArray⟩,.int .i64 n,.int .i64 p,.slice a3 ks.len c3] w4 ∧ Below W.heap.size W w4):=⟨T24,T34,bY4,bZ4,KW4⟩
  clear bX4 bF4 T14 bY4 bG4 T24 bZ4 bH4 T34 KW4
  go_wp2_with fail
  refine C5.mono ?_;rintro e w5 ⟨rfl,M5⟩
  have k5:=M5.ky
  have bY5:=HS4.out.2.2.1.ky k5 (by omega)
  have bZ5:=HS4.out.2.2.2.1.ky k5 (by omega)
  have T25:=HS4.out.1.keep (w':=w5) fun g hg hl=>k5.block g hl (by omega)
  have T35:=HS4.out.2.1.keep (w':=w5) fun g hg hl=>k5.block g hl (by omega)
  have KW5 : Below W.heap.size W w5:=HS4.out.2.2.2.2.trans ⟨k5.os,k5.tape,k5.output,k5.size,fun g hg=>k5.block g (by have:=HS4.out.2.2.2.2.size;omega) (by omega)⟩
  obtain ⟨m0,m1,m2,m3,m4⟩:=bY5.five
  obtain ⟨o0,o1,o2,o3,o4⟩:=bZ5.five
  have C6:=alike_any ks.siz ks (Nat.le_refl _) (Nat.le_trans T25.cap.1 T25.cap.2) w5 (fun g=>X + 2 ≤ g ∧ g < Y) (fun g=>Y + 2 ≤ g ∧ g < Z) k t n p a2 a3 c2 c3 T25.rw0 T35.rwE
  have HK5 : Hid (Below W.heap.size W w5):=KW5
  clear C5 M5 k5 bY5 bZ5 T25 T35 KW5 HS4 u0 u1 v0 v1 y0 y1
  go_wp2_with fail
  refine C6.mono ?_;rintro e w6 ⟨rfl,hb6⟩
  have HK6 : Hid (Below W.heap.size W w6):=HK5.out.trans (hb6.mono HK5.out.size)
  clear C6 hb6
  go_wp2
  go_ret
  exact ⟨rfl,HK6.out⟩
end Go.Proofs.YtlgkfhipobdcfaaGreatDoor

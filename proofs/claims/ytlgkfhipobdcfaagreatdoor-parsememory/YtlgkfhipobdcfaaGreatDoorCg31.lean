import Derived.Test.YtlgkfhipobdcfaaGreatDoorCg30
import Derived.Test.YtlgkfhipobdcfaaGreatDoorCg08
namespace Go.Proofs.YtlgkfhipobdcfaaGreatDoor
open Go.RowKit
structure RwE (E : TypeId) (w : World) (P : Nat → Prop) (a : Option Addr) (i : Nat) (r : F) : Prop where
  ex : ∃ xs,KF E w P xs r ∧ (xs ≠ [] → ∃ g,a = some ⟨g,0,none⟩ ∧ g < w.heap.size ∧ ∀ j u,xs[j]? = some u → w.cell? ⟨g,i * 5 + j,none⟩ = some u)
theorem TN.rwE {E : TypeId} {w : World} {P : Nat → Prop} {k : Int} {t : List UInt8} {n p : Int} {a : Option Addr} {c : Nat} {ks : F} (h : TN E w P k t n p (.slice a ks.len c) ks) : RwE E w P a 0 ks:=by
  obtain ⟨_,xs,own,hk⟩:=h.out
  refine ⟨xs,hk,fun hne=>?_⟩
  rcases own.2 with ⟨e1,e2⟩ | ⟨g,cap,cur,e1,_,h3,_,_,_,r4⟩
  · have:=own.1;rw [e2] at this;exact absurd (List.eq_nil_of_length_eq_zero (by omega)) hne
  · injection e1 with e1 e2 e3
    refine ⟨g,e1,(Array.getElem?_eq_some_iff.1 h3).1,fun j u hu=>?_⟩
    rw [cell_of_row w g _ cur E (0,0) h3,Nat.zero_mul,Nat.zero_add]
    rw [← r4,List.getElem?_take] at hu
    split at hu
    · simpa using hu
    · cases hu
theorem RwE.next {E : TypeId} {w : World} {P : Nat → Prop} {a : Option Addr} {i : Nat} {k : Int} {t : List UInt8} {n p : Int} {ks r : F} (h : RwE E w P a i (.cons k t n p ks r)) : ∃ g a' c',a = some ⟨g,0,none⟩ ∧ g < w.heap.size ∧ w.cell? ⟨g,i * 5,none⟩ = some (.int .i64 k) ∧ w.cell? ⟨g,i * 5 + 1,none⟩ = some (.string ⟨t.toArray⟩) ∧ w.cell? ⟨g,i * 5 + 2,none⟩ = some (.int .i64 n) ∧ w.cell? ⟨g,i * 5 + 3,none⟩ = some (.int .i64 p) ∧ w.cell? ⟨g,i * 5 + 4,none⟩ = some (.slice a' ks.len c') ∧
    TN E w P k t n p (.slice a' ks.len c') ks ∧ RwE E w P a (i + 1) r:=by
  obtain ⟨xs,hk,hx⟩:=h.ex
  cases hk with
  | @cons _ _ _ _ v xs' rest _ _ own hP hk hr =>
    obtain ⟨g,e,hg,hc⟩:=hx (by simp)
    have hs : ∃ a' c',v = .slice a' ks.len c':=by
      rcases own.2 with ⟨rfl,e2⟩ | ⟨g',cap,cur,rfl,_⟩
      · exact ⟨none,0,by rw [e2]⟩
      · exact ⟨_,_,rfl⟩
    obtain ⟨a',c',rfl⟩:=hs
    refine ⟨g,a',c',e,hg,hc 0 _ rfl,hc 1 _ rfl,hc 2 _ rfl,hc 3 _ rfl,hc 4 _ rfl,⟨.cons own hP hk .nil⟩,⟨rest,hr,fun _=>⟨g,e,hg,fun j u hu=>?_⟩⟩⟩
    have:=hc (j + 5) u (by simpa using hu)
    rw [show (i + 1) * 5 + j = i * 5 + (j + 5) by omega]
    exact this
theorem RwE.below {E : TypeId} {w w' : World} {P : Nat → Prop} {a : Option Addr} {i : Nat} {r : F} (h : RwE E w P a i r) (hb : Below w.heap.size w w') : RwE E w' P a i r:=by
  obtain ⟨xs,hk,hx⟩:=h.ex
  refine ⟨xs,hk.keep fun g _ hl=>hb.block g hl,fun hne=>?_⟩
  obtain ⟨g,e,hg,hc⟩:=hx hne
  exact ⟨g,e,Nat.lt_of_lt_of_le hg hb.size,fun j u hu=>(World.cell?_of_block (hb.block g hg)).trans (hc j u hu)⟩
set_option maxRecDepth 20000 in
set_option maxHeartbeats 4000000 in
theorem alike_any : ∀ (N : Nat) (ks : F),ks.siz ≤ N → ks.len ≤ maxLen → ∀ (w : World) (P P2 : Nat → Prop) (k : Int) (t : List UInt8) (n p : Int) (a a2 : Option Addr) (c c2 : Nat),Rw w P a 0 ks → RwE 32 w P2 a2 0 ks →
    Calls Tryz.prog 12 #[(.agg #[.int .i64 (k),.string ⟨(t).toArray⟩,.int .i64 (n),.int .i64 (p),.slice a ks.len c]),(.agg #[.int .i64 (k),.string ⟨(t).toArray⟩,.int .i64 (n),.int .i64 (p),.slice a2 ks.len c2])] w fun e w'=>e = .returned (.bool true) ∧ Below w.heap.size w w':=by
  intro N
  induction N using Nat.strongRecOn with
  | _ N IH =>
    intro ks hs hN w P P2 k t n p a a2 c c2 hR hR2
    have hl : ks.len ≤ 9223372036854775807:=hN
    obtain ⟨V,hV⟩ : ∃ V,w.heap.size = V:=⟨_,rfl⟩
    have B0:=Bx.new w 24 #[.int .i64 k,.string ⟨t.toArray⟩,.int .i64 n,.int .i64 p,.slice a ks.len c]
    have e1 : (w.alloc (.cells #[.int .i64 (k),.string ⟨(t).toArray⟩,.int .i64 (n),.int .i64 (p),.slice a ks.len c] 24)).heap.size = V + 1:=by simp [hV]
    have B1:=Bx.new (w.alloc (.cells #[.int .i64 (k),.string ⟨(t).toArray⟩,.int .i64 (n),.int .i64 (p),.slice a ks.len c] 24)) 32 #[.int .i64 k,.string ⟨t.toArray⟩,.int .i64 n,.int .i64 p,.slice a2 ks.len c2]
    have B0':=B0.alloc (.cells #[.int .i64 (k),.string ⟨(t).toArray⟩,.int .i64 (n),.int .i64 (p),.slice a2 ks.len c2] 32)
    have K0 : Below V w ((w.alloc (.cells #[.int .i64 (k),.string ⟨(t).toArray⟩,.int .i64 (n),.int .i64 (p),.slice a ks.len c] 24)).alloc (.cells #[.int .i64 (k),.string ⟨(t).toArray⟩,.int .i64 (n),.int .i64 (p),.slice a2 ks.len c2] 32)):=((Below.refl V w).alloc (by omega) _).alloc (by rw [e1];omega) _
    rw [e1] at B1
    rw [hV] at B0'
    obtain ⟨z0,z1,z2,z3,z4⟩:=B0'.five
    obtain ⟨mm0,mm1,mm2,mm3,mm4⟩:=B1.five
    go_enter Tryz.func12,Tryz.ntmps12
    go_wp2_with fail
    go_loopw [5] (fun iv wx=>∃ (i : Nat) (r : F),iv = .int .i64 (i : Nat) ∧ i + r.len = ks.len ∧ Bx V 24 #[.int .i64 k,.string ⟨t.toArray⟩,.int .i64 n,.int .i64 p,.slice a ks.len c] wx ∧ Bx (V + 1) 32 #[.int .i64 k,.string ⟨t.toArray⟩,.int .i64 n,.int .i64 p,.slice a2 ks.len c2] wx ∧ Hid (r.siz ≤ ks.siz ∧ Rw wx P a i r ∧ RwE 32 wx P2 a2 i r ∧ Below V w wx)) (fun iv _=>ks.len - (intOf iv).toNat)
    case atStart=>exact ⟨0,ks,rfl,by omega,B0',B1,Nat.le_refl _,hR.below (hV ▸ K0),hR2.below (hV ▸ K0),K0⟩
    case round =>
      obtain ⟨i,r,rfl,hi,BX,BY,HR⟩:=hrel
      clear z0 z1 z2 z3 z4 mm0 mm1 mm2 mm3 mm4 B0 B1 B0' K0 e1
      obtain ⟨x0,x1,x2,x3,x4⟩:=BX.five
      obtain ⟨y0,y1,y2,y3,y4⟩:=BY.five
      cases r with
      | nil =>
        have h1 : ¬ (i : Int) < (ks.len : Int):=by simp only [F.len] at hi;omega
        go_wp2
        go_ret
        exact ⟨rfl,HR.out.2.2.2⟩
      | cons k' t' n' p' ks' r' =>
        simp only [F.len] at hi
        obtain ⟨hz,hr,hrr,hb⟩:=HR.out
        simp only [F.siz] at hz
        obtain ⟨g,a',c',rfl,hg,c0,c1,c2',c3,c4,hT,hr'⟩:=hr.next
        obtain ⟨g2,a2',cc2,rfl,hg2,s0,s1,s2,s3,s4,hT2,hr2'⟩:=hrr.next
        have h1 : (i : Int) < (ks.len : Int):=by omega
        have wi : IntKind.i64.wrap ((i : Int) + 1) = (i : Int) + 1:=by rw [IntKind.wrap_i64];omega
        have HN : Hid (r'.siz ≤ ks.siz ∧ Rw wr P (some ⟨g,0,none⟩) (i + 1) r' ∧ RwE 32 wr P2 (some ⟨g2,0,none⟩) (i + 1) r' ∧ Below V w wr):=⟨by omega,hr',hr2',hb⟩
        have hms : ks.len - (i + 1) < ks.len - i:=by omega
        have hVl:=BX.lt
        have hVl2:=BY.lt
        obtain ⟨Y,F,F1,F2⟩:=class_of wr
        have HC : Hid (∃ x,wr.drew = F x):=F2 _ (Below.refl _ _).drew
        have HB : Hid (∀ x,Bx V 24 #[.int .i64 k,.string ⟨t.toArray⟩,.int .i64 n,.int .i64 p,.slice (some ⟨g,0,none⟩) ks.len c] (F x) ∧ Bx (V + 1) 32 #[.int .i64 k,.string ⟨t.toArray⟩,.int .i64 n,.int .i64 p,.slice (some ⟨g2,0,none⟩) ks.len c2] (F x)):=fun x=>⟨BX.below (F1 x),BY.below (F1 x)⟩
        have HF1 : Hid (∀ x,Below wr.heap.size wr (F x)):=F1
        have C : ∀ x,Calls Tryz.prog 12 #[(.agg #[.int .i64 (k'),.string ⟨(t').toArray⟩,.int .i64 (n'),.int .i64 (p'),.slice a' ks'.len c']),(.agg #[.int .i64 (k'),.string ⟨(t').toArray⟩,.int .i64 (n'),.int .i64 (p'),.slice a2' ks'.len cc2])] (F x) fun e w''=>e = .returned (.bool true) ∧ ∃ y,w'' = F y:=fun x =>
          (IH ks'.siz (by omega) ks' (Nat.le_refl _) (Nat.le_trans hT.cap.1 hT.cap.2) (F x) P P2 k' t' n' p' a' a2' c' cc2 (hT.rw0.below (F1 x)) (hT2.rwE.below (F1 x))).mono fun e w' ⟨he,hw⟩=>⟨he,F2 w' ((F1 x).trans (hw.mono (F1 x).size))⟩
        have v4 : ∀ x,(F x).cell? ⟨V,4,none⟩ = some (.slice (some ⟨g,0,none⟩) ks.len c):=fun x=>((F1 x).cell hVl).trans x4
        have w4 : ∀ x,(F x).cell? ⟨V + 1,4,none⟩ = some (.slice (some ⟨g2,0,none⟩) ks.len c2):=fun x=>((F1 x).cell hVl2).trans y4
        have d0 : ∀ x,(F x).cell? ⟨g,i * 5,none⟩ = some (.int .i64 k'):=fun x=>((F1 x).cell hg).trans c0
        have d1 : ∀ x,(F x).cell? ⟨g,i * 5 + 1,none⟩ = some (.string ⟨t'.toArray⟩):=fun x=>((F1 x).cell hg).trans c1
        have d2 : ∀ x,(F x).cell? ⟨g,i * 5 + 2,none⟩ = some (.int .i64 n'):=fun x=>((F1 x).cell hg).trans c2'
        have d3 : ∀ x,(F x).cell? ⟨g,i * 5 + 3,none⟩ = some (.int .i64 p'):=fun x=>((F1 x).cell hg).trans c3
        have d4 : ∀ x,(F x).cell? ⟨g,i * 5 + 4,none⟩ = some (.slice a' ks'.len c'):=fun x=>((F1 x).cell hg).trans c4
        have q0 : ∀ x,(F x).cell? ⟨g2,i * 5,none⟩ = some (.int .i64 k'):=fun x=>((F1 x).cell hg2).trans s0
        have q1 : ∀ x,(F x).cell? ⟨g2,i * 5 + 1,none⟩ = some (.string ⟨t'.toArray⟩):=fun x=>((F1 x).cell hg2).trans s1
        have q2 : ∀ x,(F x).cell? ⟨g2,i * 5 + 2,none⟩ = some (.int .i64 n'):=fun x=>((F1 x).cell hg2).trans s2
        have q3 : ∀ x,(F x).cell? ⟨g2,i * 5 + 3,none⟩ = some (.int .i64 p'):=fun x=>((F1 x).cell hg2).trans s3
        have q4 : ∀ x,(F x).cell? ⟨g2,i * 5 + 4,none⟩ = some (.slice a2' ks'.len cc2):=fun x=>((F1 x).cell hg2).trans s4
        haveI : Nonempty Y:=HC.out.elim fun x _=>⟨x⟩
        go_wp2_with fail
        clear F1 F2 c0 c1 c2' c3 c4 s0 s1 s2 s3 s4 x0 x1 x2 x3 x4 y0 y1 y2 y3 y4 hT hT2 hr hrr hr' hr2' hb hR hR2 HR hN
        refine wp_class (F:=F) (by kernel_rfl) (by kernel_rfl) HC.out ?_
        repeat (go_big_quiet_step (exact C _))
        refine wpQuiet_nil ?_
        intro _ hw'
        obtain ⟨x,rfl⟩:=hw'
        have K3 : Hid (Below wr.heap.size wr (F x)):=HF1.out x
        have B3:=HB.out x
        have B3 : Hid (Bx V 24 #[.int .i64 k,.string ⟨t.toArray⟩,.int .i64 n,.int .i64 p,.slice (some ⟨g,0,none⟩) ks.len c] (F x) ∧ Bx (V + 1) 32 #[.int .i64 k,.string ⟨t.toArray⟩,.int .i64 n,.int .i64 p,.slice (some ⟨g2,0,none⟩) ks.len c2] (F x)):=HB.out x
        clear HF1 HB C v4 w4 d0 d1 d2 d3 d4 q0 q1 q2 q3 q4 HC
        generalize F x = w3 at *
        go_wp2_with fail
        go_round
        case rel =>
          refine ⟨i + 1,r',by first | rfl | simp,by omega,B3.out.1,B3.out.2,HN.out.1,HN.out.2.1.below K3.out,HN.out.2.2.1.below K3.out,HN.out.2.2.2.trans (K3.out.mono (by have:=HN.out.2.2.2.size;omega))⟩
        case measure=>first | omega | (simp only [intOf];omega) | (simp;omega)
end Go.Proofs.YtlgkfhipobdcfaaGreatDoor


namespace Go.Proofs.YtlgkfhipobdcfaaGreatDoor
open Go.RowKit
def src1 : List UInt8:=[114,101,116,117,114,110,32,45,97,32,42,32,98,32,45,32,99]
def src2 : List UInt8:=[108,111,99,97,108,32,116,32,61,32,123,49,44,32,120,32,61,32,50,59,32,91,51,93,32,61,32,52,44,125]
def src3 : List UInt8:=[97,44,32,102,40,41,32,61,32,49]
def out2 : List UInt8:=[108,111,99,97,108,32,116,32,61,32,123,32,49,32,44,32,91,32,34,120,34,32,93,32,61,32,50,32,44,32,91,32,51,32,93,32,61,32,52,32,125,32,59]
def prTF (l : List UInt8) : F × Int × Int:=if (scTF l).2.1 ≠ 0 then (noF,(scTF l).2.1,(scTF l).2.2) else outT (chk (scTF l).1)
theorem prTF_eq (l : List UInt8) : prTF l = prT l:=by unfold prTF prT;rw [scTF_eq]
def tree1e : F:=.cons 11 [42] 0 7 (.cons 10 [45] 0 7 (one 6 [97] 0 8 .nil) (one 6 [98] 0 12 .nil)) (one 6 [99] 0 16 .nil)
def tree1 : F:=one 30 [] 0 0 (one 11 [45] 0 7 tree1e)
theorem pr_ex1 : prT src1 = (one 20 [] 0 0 tree1,0,0):=by
  rw [← prTF_eq];kernel_rfl
theorem pr_ex3 : prT src3 = (noF,4,3):=by
  rw [← prTF_eq];kernel_rfl
def tree2 : F:=(prTF src2).1
def kids2 : F:=match tree2 with | .cons _ _ _ _ ks _=>ks | .nil=>.nil
theorem pr_ex2 : prT src2 = (one 20 [] 0 0 kids2,0,0):=by
  rw [← prTF_eq];kernel_rfl
theorem wf_ex2 : (one 20 [] 0 0 kids2).wf = true:=by kernel_rfl
theorem siz_ex2 : kids2.siz < 40:=of_decide_eq_true (by kernel_rfl)
def toks2 : Tks:=tkB fmS quoQ 40 20 [] 0 kids2
theorem join_ex2 : Lib.join toks2 [32] = out2:=by kernel_rfl
theorem len_ex2 : toks2.length = 19:=by kernel_rfl
theorem hgt_ex1 : tree1.hgt = 5:=by kernel_rfl
theorem siz_ex1 : tree1.siz ≤ 40:=of_decide_eq_true (by kernel_rfl)
set_option maxRecDepth 20000 in
set_option maxHeartbeats 8000000 in
theorem fixed_any (W : World) : Calls Tryz.prog 11 #[] W fun e w'=>e = .returned (.bool true) ∧ Below W.heap.size W w':=by
  have C1:=parse_any ⟨src1.toArray⟩ W (by decide)
  rw [show (⟨src1.toArray⟩ : ByteArray).data.toList = src1 from rfl,pr_ex1] at C1
  unfold src1 at C1
  go_enter Tryz.func11,Tryz.ntmps11
  go_wp2_with fail
  refine C1.mono ?_;rintro e w1 ⟨k',t',n',p',a,c,ks,rfl,he,hT,hB⟩
  simp only [one,F.cons.injEq] at he
  obtain ⟨rfl,rfl,rfl,rfl,rfl,-⟩:=he
  have hRw:=hT.rw0
  have hRv:=hT.rv
  rw [show tree1.len = 1 from rfl]
  clear hT
  unfold tree1 one at hRv
  obtain ⟨g1,o1,a1,c1,rfl,hg1,q0,q1,q2,q3,q4,hRv1,-,-⟩:=hRv.cons
  rw [show (F.cons 11 [45] 0 7 tree1e F.nil).len = 1 from rfl] at q4
  obtain ⟨g2,o2,a2,c2,rfl,hg2,r0,r1,r2,r3,r4,hRv2,-,-⟩:=hRv1.cons
  rw [show tree1e.len = 2 from rfl] at r4
  unfold tree1e at hRv2
  obtain ⟨g3,o3,a3,c3,rfl,hg3,u0,u1,u2,u3,u4,-,-,-⟩:=hRv2.cons
  obtain ⟨X,hX⟩ : ∃ X,w1.heap.size = X:=⟨_,rfl⟩
  have B1:=Bx.new w1 24 #[.int .i64 20,.string ⟨#[]⟩,.int .i64 0,.int .i64 0,.slice (some ⟨g1,o1,none⟩) 1 c]
  have e1 : (w1.alloc (.cells #[.int .i64 (20),.string ⟨#[]⟩,.int .i64 (0),.int .i64 (0),.slice (some ⟨g1,o1,none⟩) 1 c] 24)).heap.size = X + 1:=by simp [hX]
  have B2:=Bx.new (w1.alloc (.cells #[.int .i64 (20),.string ⟨#[]⟩,.int .i64 (0),.int .i64 (0),.slice (some ⟨g1,o1,none⟩) 1 c] 24)) 27 #[.int .i64 0,.int .i64 0]
  rw [e1] at B2
  have B1':=B1.alloc (.cells #[.int .i64 0,.int .i64 0] 27)
  rw [hX] at B1'
  have K1 : Below X w1 ((w1.alloc (.cells #[.int .i64 (20),.string ⟨#[]⟩,.int .i64 (0),.int .i64 (0),.slice (some ⟨g1,o1,none⟩) 1 c] 24)).alloc (.cells #[.int .i64 0,.int .i64 0] 27)):=((Below.refl X w1).alloc (by omega) _).alloc (by rw [e1];omega) _
  obtain ⟨V1,hV1⟩ : ∃ V1,(w1.alloc (.cells #[.int .i64 (20),.string ⟨#[]⟩,.int .i64 (0),.int .i64 (0),.slice (some ⟨g1,o1,none⟩) 1 c] 24)).alloc (.cells #[.int .i64 0,.int .i64 0] 27) = V1:=⟨_,rfl⟩
  rw [hV1] at B2 B1' K1
  have C2:=Text_ok ⟨src2.toArray⟩ V1 (by decide) pr_ex2 40 (by omega) siz_ex2 wf_ex2 toks2 rfl (by rw [len_ex2];omega) (by rw [len_ex2];omega) (by rw [join_ex2];decide)
  rw [join_ex2] at C2
  unfold src2 out2 at C2
  have HV1 : Hid ((w1.alloc (.cells #[.int .i64 (20),.string ⟨#[]⟩,.int .i64 (0),.int .i64 (0),.slice (some ⟨g1,o1,none⟩) 1 c] 24)).alloc (.cells #[.int .i64 0,.int .i64 0] 27) = V1):=hV1
  have H1 : Hid (Bx X 24 #[.int .i64 20,.string ⟨#[]⟩,.int .i64 0,.int .i64 0,.slice (some ⟨g1,o1,none⟩) 1 c] V1 ∧ Bx (X + 1) 27 #[.int .i64 0,.int .i64 0] V1 ∧ Below X w1 V1 ∧ Below W.heap.size W w1):=⟨B1',B2,K1,hB⟩
  have HQ : Hid ((w1.cell? ⟨g1,o1 + 4,none⟩ = some (.slice (some ⟨g2,o2,none⟩) 1 c1) ∧ g1 < X) ∧ (w1.cell? ⟨g2,o2,none⟩ = some (.int .i64 11) ∧ w1.cell? ⟨g2,o2 + 1,none⟩ = some (.string ⟨#[45]⟩) ∧ w1.cell? ⟨g2,o2 + 2,none⟩ = some (.int .i64 0) ∧ w1.cell? ⟨g2,o2 + 3,none⟩ = some (.int .i64 7) ∧ w1.cell? ⟨g2,o2 + 4,none⟩ = some (.slice (some ⟨g3,o3,none⟩) 2 c2) ∧ g2 < X) ∧ (w1.cell? ⟨g3,o3 + 1,none⟩ = some (.string ⟨#[42]⟩) ∧ g3 < X) ∧ Rw w1 (fun g=>W.heap.size ≤ g) (some ⟨g1,o1,none⟩) 0 tree1):=⟨⟨q4,by omega⟩,⟨r0,r1,r2,r3,r4,by omega⟩,⟨u1,by omega⟩,hRw⟩
  clear C1 hB hRw hRv hRv1 hRv2 q0 q1 q2 q3 q4 r0 r1 r2 r3 r4 u0 u1 u2 u3 u4 hg1 hg2 hg3 B1 B1' B2 K1 e1 hV1
  go_wp2_with fail
  rw [HV1.out]
  refine C2.mono ?_;rintro e w2 ⟨rfl,hb2⟩
  have b2X:=H1.out.1.below hb2
  have b2Y:=H1.out.2.1.below hb2
  have hX2:=b2Y.lt
  have K2:=H1.out.2.2.1.trans (hb2.mono (by have:=H1.out.2.1.lt;omega))
  obtain ⟨Y,hY⟩ : ∃ Y,w2.heap.size = Y:=⟨_,rfl⟩
  have bY:=Bx.new w2 27 #[.int .i64 0,.int .i64 0]
  rw [hY] at bY
  have K2':=K2.alloc (by omega) (.cells #[.int .i64 0,.int .i64 0] 27)
  obtain ⟨V2,hV2⟩ : ∃ V2,w2.alloc (.cells #[.int .i64 0,.int .i64 0] 27) = V2:=⟨_,rfl⟩
  have b2X':=b2X.alloc (.cells #[.int .i64 0,.int .i64 0] 27)
  have b2Y':=b2Y.alloc (.cells #[.int .i64 0,.int .i64 0] 27)
  rw [hV2] at bY K2' b2X' b2Y'
  have C3:=parse_any ⟨src3.toArray⟩ V2 (by decide)
  rw [show (⟨src3.toArray⟩ : ByteArray).data.toList = src3 from rfl,pr_ex3] at C3
  unfold src3 at C3
  have HV2 : Hid (w2.alloc (.cells #[.int .i64 0,.int .i64 0] 27) = V2):=hV2
  have H2 : Hid (Bx X 24 #[.int .i64 20,.string ⟨#[]⟩,.int .i64 0,.int .i64 0,.slice (some ⟨g1,o1,none⟩) 1 c] V2 ∧ Bx (X + 1) 27 #[.int .i64 0,.int .i64 0] V2 ∧ Bx Y 27 #[.int .i64 0,.int .i64 0] V2 ∧ Below X w1 V2 ∧ Below W.heap.size W w1 ∧ X + 1 < Y):=⟨b2X',b2Y',bY,K2',H1.out.2.2.2,by omega⟩
  clear C2 hb2 b2X b2Y K2 bY K2' b2X' b2Y' HV1 H1 hV2
  go_wp2_with fail
  rw [HV2.out]
  refine C3.mono ?_;rintro e w3 ⟨k',t',n',p',a',c',ks',rfl,he,-,hB3⟩
  simp only [noF,one,F.cons.injEq] at he
  obtain ⟨rfl,rfl,rfl,rfl,rfl,-⟩:=he
  rw [show F.nil.len = 0 from rfl]
  obtain ⟨Z,hZ⟩ : ∃ Z,w3.heap.size = Z:=⟨_,rfl⟩
  have hYl:=(H2.out.2.2.1.below hB3).lt
  have e3 : (w3.alloc (.cells #[.int .i64 (0),.string ⟨#[]⟩,.int .i64 (0),.int .i64 (0),.slice a' 0 c'] 24)).heap.size = Z + 1:=by simp [hZ]
  have bZ:=Bx.new (w3.alloc (.cells #[.int .i64 (0),.string ⟨#[]⟩,.int .i64 (0),.int .i64 (0),.slice a' 0 c'] 24)) 27 #[.int .i64 4,.int .i64 3]
  rw [e3] at bZ
  have bX:=((H2.out.1.below hB3).alloc (.cells #[.int .i64 (0),.string ⟨#[]⟩,.int .i64 (0),.int .i64 (0),.slice a' 0 c'] 24)).alloc (.cells #[.int .i64 4,.int .i64 3] 27)
  have bF:=((H2.out.2.1.below hB3).alloc (.cells #[.int .i64 (0),.string ⟨#[]⟩,.int .i64 (0),.int .i64 (0),.slice a' 0 c'] 24)).alloc (.cells #[.int .i64 4,.int .i64 3] 27)
  have bG:=((H2.out.2.2.1.below hB3).alloc (.cells #[.int .i64 (0),.string ⟨#[]⟩,.int .i64 (0),.int .i64 (0),.slice a' 0 c'] 24)).alloc (.cells #[.int .i64 4,.int .i64 3] 27)
  have K3:=((H2.out.2.2.2.1.trans (hB3.mono (by have:=H2.out.2.2.1.lt;have:=H2.out.2.2.2.2.2;omega))).alloc (by have:=H2.out.2.2.2.2.2;omega) (.cells #[.int .i64 (0),.string ⟨#[]⟩,.int .i64 (0),.int .i64 (0),.slice a' 0 c'] 24)).alloc (by rw [e3];have:=H2.out.2.2.2.2.2;omega) (.cells #[.int .i64 4,.int .i64 3] 27)
  obtain ⟨V3,hV3⟩ : ∃ V3,(w3.alloc (.cells #[.int .i64 (0),.string ⟨#[]⟩,.int .i64 (0),.int .i64 (0),.slice a' 0 c'] 24)).alloc (.cells #[.int .i64 4,.int .i64 3] 27) = V3:=⟨_,rfl⟩
  rw [hV3] at bZ bX bF bG K3
  have hW : Below W.heap.size W V3:=H2.out.2.2.2.2.1.trans (K3.mono (by have:=H2.out.2.2.2.2.1.size;omega))
  have hV3s : X < V3.heap.size:=bX.lt
  obtain ⟨⟨s4,hg1⟩,⟨t0,t1,t2,t3,t4,hg2⟩,⟨v1,hg3⟩,hRw⟩:=HQ.out
  have s4':=(K3.cell (p:=⟨g1,o1 + 4,none⟩) hg1).trans s4
  have t0':=(K3.cell (p:=⟨g2,o2,none⟩) hg2).trans t0
  have t1':=(K3.cell (p:=⟨g2,o2 + 1,none⟩) hg2).trans t1
  have t2':=(K3.cell (p:=⟨g2,o2 + 2,none⟩) hg2).trans t2
  have t3':=(K3.cell (p:=⟨g2,o2 + 3,none⟩) hg2).trans t3
  have t4':=(K3.cell (p:=⟨g2,o2 + 4,none⟩) hg2).trans t4
  have v1':=fun o=>alloc_cell (b:=g3) (by omega) ((K3.cell (p:=⟨g3,o3 + 1,none⟩) hg3).trans v1) o
  have x4:=bX.c 4 _ rfl
  obtain ⟨x0A,x1A,x2A,x3A,x4A⟩:=bX.fiveA
  have z0:=fun o=>(bZ.alloc o).c 0 _ rfl
  have z1:=fun o=>(bZ.alloc o).c 1 _ rfl
  have f0:=bF.c 0 _ rfl
  have g0:=bG.c 0 _ rfl
  have hRw3:=hRw.below (by rw [hX];exact K3)
  have KA:=(Below.refl V3.heap.size V3).alloc (Nat.le_refl _) (.cells #[.int .i64 (11),.string ⟨([45]).toArray⟩,.int .i64 (0),.int .i64 (7),.slice (some ⟨g3,o3,none⟩) 2 c2] 24)
  have CH:=height_any 40 tree1 siz_ex1 (by omega) (V3.alloc (.cells #[.int .i64 (11),.string ⟨([45]).toArray⟩,.int .i64 (0),.int .i64 (7),.slice (some ⟨g3,o3,none⟩) 2 c2] 24)) _ 20 [] 0 0 (some ⟨g1,o1,none⟩) c (hRw3.below KA)
  rw [hgt_ex1,show tree1.len = 1 from rfl] at CH
  have heq : ∀ W,(binOp .eql 27 (.agg #[.int .i64 4,.int .i64 3]) (.agg #[.int .i64 4,.int .i64 3])).run Tryz.prog W = .ok (.bool true) W:=fun W=>by rw [eql27];simp
  have HF : Hid (Below W.heap.size W (V3.alloc (.cells #[.int .i64 (11),.string ⟨([45]).toArray⟩,.int .i64 (0),.int .i64 (7),.slice (some ⟨g3,o3,none⟩) 2 c2] 24))):=hW.alloc (by have:=hW.size;omega) _
  clear C3 hB3 H2 HQ HV2 hYl e3 bZ bX bF bG K3 hW s4 t0 t1 t2 t3 t4 v1 hg1 hg2 hg3 hRw hRw3 KA
  go_wp2_with fail
  refine CH.mono ?_;rintro e w6 ⟨rfl,hb6⟩
  have HG : Hid (Below W.heap.size W w6):=HF.out.trans (hb6.mono HF.out.size)
  clear CH hb6 HF
  go_wp2
  go_ret
  exact ⟨rfl,HG.out⟩
end Go.Proofs.YtlgkfhipobdcfaaGreatDoor


namespace Go.Proofs.YtlgkfhipobdcfaaGreatDoor
open Go.RowKit
set_option maxRecDepth 20000
structure RS (b m : Nat) (T l : List Tok) (f : Int) (W : World) : Prop where
  ps : PS b m T l W
  fl : W.cell? ⟨b,2,none⟩ = some (.int .i64 f)
  fz : W.frozen? ⟨b,2,none⟩ = false
theorem RS.ky {b m : Nat} {T l : List Tok} {f : Int} {W W' : World} {S : Nat → Prop} (h : RS b m T l f W) (k : Ky S W W') (hS : ∀ x,x < m → ¬ S x) : RS b m T l f W':=by
  have hlt:=h.ps.lt
  have hb : W'.heap[b]? = W.heap[b]?:=k.block b (by omega) (hS b (by omega))
  exact ⟨h.ps.ky k hS,(World.cell?_of_block hb).trans h.fl,(World.frozen?_of_block hb).trans h.fz⟩
theorem RS.below {b m : Nat} {T l : List Tok} {f : Int} {W W' : World} (h : RS b m T l f W) (hb : Below W.heap.size W W') : RS b m T l f W':=h.ky (S:=fun _=>False) (.of_below hb) (fun _ _=>id)
theorem RS.alloc {b m : Nat} {T l : List Tok} {f : Int} {W : World} (h : RS b m T l f W) (o : Obj) : RS b m T l f (W.alloc o):=h.below ((Below.refl _ W).alloc (Nat.le_refl _) o)
theorem RS.drew {b m : Nat} {T l : List Tok} {f : Int} {W : World} (h : RS b m T l f W) : RS b m T l f W.drew:=⟨h.ps.drew,h.fl,h.fz⟩
theorem RS.set {b m X o : Nat} {T l : List Tok} {f : Int} {w : World} (h : RS b m T l f w) (hX : m ≤ X) (u : Value) : RS b m T l f (w.setCell ⟨X,o,none⟩ u) :=
  h.ky (S:=fun k=>k = X) (Ky.setP (Ky.refl _ _) u) (fun x hx e=>by omega)
structure Tr (b m : Nat) (T l : List Tok) (f : Int) (W W' : World) : Prop where
  rs : RS b m T l f W'
  ky : Ky (fun k=>k = b) W W'
theorem RS.tr {b m : Nat} {T l : List Tok} {f : Int} {W : World} (h : RS b m T l f W) : Tr b m T l f W W:=⟨h,Ky.refl _ _⟩
theorem Tr.trans {b m : Nat} {T l l' : List Tok} {f f' : Int} {x y z : World} (h : Tr b m T l f x y) (k : Tr b m T l' f' y z) : Tr b m T l' f' x z:=⟨k.rs,h.ky.trans k.ky⟩
theorem Tr.below {b m : Nat} {T l : List Tok} {f : Int} {x y z : World} (h : Tr b m T l f x y) (k : Below y.heap.size y z) : Tr b m T l f x z:=⟨h.rs.below k,h.ky.trans (.of_below k)⟩
theorem Tr.alloc {b m : Nat} {T l : List Tok} {f : Int} {x y : World} (h : Tr b m T l f x y) (o : Obj) : Tr b m T l f x (y.alloc o):=⟨h.rs.alloc o,h.ky.alloc o⟩
theorem Tr.drew {b m : Nat} {T l : List Tok} {f : Int} {x y : World} (h : Tr b m T l f x y) : Tr b m T l f x y.drew:=⟨h.rs.drew,h.ky.drew⟩
theorem Tr.new {b m X o : Nat} {T l : List Tok} {f : Int} {W w : World} (h : Tr b m T l f W w) (hX : W.heap.size ≤ X) (hm : m ≤ W.heap.size) (u : Value) : Tr b m T l f W (w.setCell ⟨X,o,none⟩ u):=⟨h.rs.set (by omega) u,h.ky.new hX u⟩
theorem PS.endsT {b m : Nat} {T l : List Tok} {W : World} (h : PS b m T l W) : Ends T:=by
  obtain ⟨i,_,h6,_⟩:=h.plc
  obtain ⟨p,e,h1,h2⟩:=h.ends
  exact ⟨T.take i ++ p,e,by rw [List.append_assoc,← h1,← h6,List.take_append_drop],h2⟩
def lst1 (T : List Tok) : List Tok:=T.drop (T.length - 1)
theorem lst1_ends {T : List Tok} (h : Ends T) : Ends (lst1 T) ∧ (lst1 T).length = 1:=by
  obtain ⟨p,e,rfl,h2⟩:=h
  have : lst1 (p ++ [e]) = [e]:=by unfold lst1;simp
  rw [this]
  exact ⟨⟨[],e,rfl,h2⟩,rfl⟩
theorem PS.seek {b m : Nat} {T l : List Tok} {W : World} (h : PS b m T l W) : PS b m T (lst1 T) (W.setCell ⟨b,1,none⟩ (.int .i64 ((T.length : Int) - 1))):=by
  obtain ⟨g,cap,h1,h2,h3,h4⟩:=h.tok
  obtain ⟨i,h5,h6,h7⟩:=h.plc
  have hE:=lst1_ends h.endsT
  have hT : T.length ≠ 0:=fun e=>by have:=hE.2;unfold lst1 at this;rw [List.length_drop] at this;omega
  have hb : ∀ j u,(W.setCell ⟨b,1,none⟩ u).cell? ⟨g,j,none⟩ = W.cell? ⟨g,j,none⟩:=fun j u=>World.cell?_setCell_other _ _ _ _ (fun e=>h3 (by injection e with e1;exact e1.symm))
  refine ⟨⟨g,cap,?_,h2,h3,fun j u hu=>(hb j _).trans (h4 j u hu)⟩,⟨T.length - 1,?_,rfl,by rw [hE.2];omega⟩,by simpa using h.fz,by rw [size_set];exact h.lt,hE.1,h.small⟩
  · rw [World.cell?_setCell_other _ _ _ _ (fun e=>by injection e with e1 e2;cases e2)];exact h1
  · rw [show (((T.length - 1 : Nat) : Nat) : Int) = (T.length : Int) - 1 by omega]
    exact World.cell?_setCell_same _ _ _ h5
theorem PS.fault {b m : Nat} {T l : List Tok} {W : World} (h : PS b m T l W) (u : Value) : PS b m T l (W.setCell ⟨b,2,none⟩ u):=by
  obtain ⟨g,cap,h1,h2,h3,h4⟩:=h.tok
  obtain ⟨i,h5,h6,h7⟩:=h.plc
  have hb : ∀ j,(W.setCell ⟨b,2,none⟩ u).cell? ⟨g,j,none⟩ = W.cell? ⟨g,j,none⟩:=fun j=>World.cell?_setCell_other _ _ _ _ (fun e=>h3 (by injection e with e1;exact e1.symm))
  refine ⟨⟨g,cap,?_,h2,h3,fun j v hv=>(hb j).trans (h4 j v hv)⟩,⟨i,?_,h6,h7⟩,by simpa using h.fz,by rw [size_set];exact h.lt,h.ends,h.small⟩
  · rw [World.cell?_setCell_other _ _ _ _ (fun e=>by injection e with e1 e2;cases e2)];exact h1
  · rw [World.cell?_setCell_other _ _ _ _ (fun e=>by injection e with e1 e2;cases e2)];exact h5
theorem RS.next {b m : Nat} {T l : List Tok} {t : Tok} {f : Int} {W : World} {i : Nat} (h : RS b m T (t :: l) f W) (ht : cls t ≠ 56) (hi : W.cell? ⟨b,1,none⟩ = some (.int .i64 i)) : RS b m T l f (W.setCell ⟨b,1,none⟩ (.int .i64 ((i : Int) + 1))) :=
  ⟨h.ps.next ht hi,by rw [World.cell?_setCell_other _ _ _ _ (fun e=>by injection e with e1 e2;cases e2)];exact h.fl,by simpa using h.fz⟩
theorem RS.seek {b m : Nat} {T l : List Tok} {f : Int} {W : World} (h : RS b m T l f W) : RS b m T (lst1 T) f (W.setCell ⟨b,1,none⟩ (.int .i64 ((T.length : Int) - 1))) :=
  ⟨h.ps.seek,by rw [World.cell?_setCell_other _ _ _ _ (fun e=>by injection e with e1 e2;cases e2)];exact h.fl,by simpa using h.fz⟩
theorem RS.fault {b m : Nat} {T l : List Tok} {f : Int} {W : World} (h : RS b m T l f W) (a : Int) : RS b m T l a (W.setCell ⟨b,2,none⟩ (.int .i64 a)) :=
  ⟨h.ps.fault _,World.cell?_setCell_same _ _ _ h.fl,by simpa using h.fz⟩
theorem RS.readsA {b m : Nat} {T l : List Tok} {t : Tok} {f : Int} {W : World} (h : RS b m T (t :: l) f W) : ∃ g cap i : Nat,(∀ o,(W.alloc o).cell? ⟨b,0,none⟩ = some (.slice (some ⟨g,0,none⟩) T.length cap)) ∧ (∀ o,(W.alloc o).cell? ⟨b,1,none⟩ = some (.int .i64 i)) ∧ (∀ o,(W.alloc o).cell? ⟨b,2,none⟩ = some (.int .i64 f)) ∧ i < T.length ∧ i + 1 ≤ 20001 ∧
    (∀ o,(W.alloc o).cell? ⟨g,i * 4,none⟩ = some (.int .i64 t.k)) ∧ (∀ o,(W.alloc o).cell? ⟨g,i * 4 + 1,none⟩ = some (.string ⟨t.t.toArray⟩)) ∧ (∀ o,(W.alloc o).cell? ⟨g,i * 4 + 2,none⟩ = some (.int .i64 t.v)) ∧ (∀ o,(W.alloc o).cell? ⟨g,i * 4 + 3,none⟩ = some (.int .i64 t.p)) ∧
    W.cell? ⟨b,0,none⟩ = some (.slice (some ⟨g,0,none⟩) T.length cap) ∧ W.cell? ⟨b,1,none⟩ = some (.int .i64 i) ∧ W.cell? ⟨g,i * 4,none⟩ = some (.int .i64 t.k) ∧ W.cell? ⟨g,i * 4 + 1,none⟩ = some (.string ⟨t.t.toArray⟩) ∧ W.cell? ⟨g,i * 4 + 2,none⟩ = some (.int .i64 t.v) ∧ W.cell? ⟨g,i * 4 + 3,none⟩ = some (.int .i64 t.p):=by
  have hlt:=h.ps.lt
  obtain ⟨g,cap,i,h1,h2,h3,h4,c0,c1,c2,c3⟩:=h.ps.reads
  have hb : b < W.heap.size:=by omega
  have hg : g < W.heap.size:=World.block_lt_of_cell? W ⟨g,i * 4,none⟩ c0
  exact ⟨g,cap,i,fun o=>alloc_cell hb h1 o,fun o=>alloc_cell hb h2 o,fun o=>alloc_cell hb h.fl o,h3,h4,fun o=>alloc_cell hg c0 o,fun o=>alloc_cell hg c1 o,fun o=>alloc_cell hg c2 o,fun o=>alloc_cell hg c3 o,h1,h2,c0,c1,c2,c3⟩
set_option maxHeartbeats 1000000 in
theorem rat_any (b m : Nat) (T l : List Tok) (t : Tok) (f : Int) (W : World) (h : RS b m T (t :: l) f W) : Calls Tryz.prog 26 #[.pointer (some ⟨b,0,none⟩)] W fun e w'=>e = .returned (.int .i64 t.p) ∧ Below W.heap.size W w':=by
  obtain ⟨g,cap,i,-,-,-,h3,h4,-,-,-,-,h1,h2,c0,c1,c2,c3⟩:=h.readsA
  go_enter Tryz.func26,Tryz.ntmps26
  go_wp2
  go_region
  all_goals
    go_wp2
    go_ret
    exact ⟨rfl,(Below.refl _ _).drew⟩
def seeB (f : Int) (t : Tok) (w : List UInt8) : Bool:=decide (f < 0) && rd t w
theorem seeB_yes {f : Int} {t : Tok} {w : List UInt8} (h1 : f < 0) (h2 : t.k = 2 ∨ t.k = 5) (h3 : t.t = w) : seeB f t w = true:=by
  unfold seeB rd;simp [h1,h2,h3]
theorem seeB_no {f : Int} {t : Tok} {w : List UInt8} (h : ¬ f < 0 ∨ ¬ (t.k = 2 ∨ t.k = 5) ∨ ¬ t.t = w) : seeB f t w = false:=by
  unfold seeB rd
  rcases h with h | h | h
  · simp [h]
  · have : (t.k == 2 || t.k == 5) = false:=by simpa using h
    simp [this]
  · simp [h]
set_option maxHeartbeats 4000000 in
theorem rsee_any (b m : Nat) (T l : List Tok) (t : Tok) (f : Int) (w : List UInt8) (W : World) (h : RS b m T (t :: l) f W) : Calls Tryz.prog 46 #[.pointer (some ⟨b,0,none⟩),.string ⟨w.toArray⟩] W fun e w'=>e = .returned (.bool (seeB f t w)) ∧ Below W.heap.size W w':=by
  obtain ⟨g,cap,i,h1,h2,hf,h3,h4,c0,c1,c2,c3,g1,g2,d0,d1,d2,d3⟩:=h.readsA
  have hb : b < W.heap.size:=by have:=h.ps.lt;omega
  have hf0:=h.fl
  clear h
  obtain ⟨tk,tt,tv,tp⟩:=t
  simp only at c0 c1 c2 c3 d0 d1 d2 d3
  obtain ⟨V,hV⟩ : ∃ V,W.alloc (.cells #[.int .i64 tk,.string ⟨tt.toArray⟩,.int .i64 tv,.int .i64 tp] 63) = V:=⟨_,rfl⟩
  have B:=Bx.new W 63 #[.int .i64 tk,.string ⟨tt.toArray⟩,.int .i64 tv,.int .i64 tp]
  have K : Below W.heap.size W (W.alloc (.cells #[.int .i64 tk,.string ⟨tt.toArray⟩,.int .i64 tv,.int .i64 tp] 63)):=(Below.refl _ _).alloc (Nat.le_refl _) _
  have hfV:=hf (.cells #[.int .i64 tk,.string ⟨tt.toArray⟩,.int .i64 tv,.int .i64 tp] 63)
  rw [hV] at B K hfV
  obtain ⟨e0,e1,e2,e3⟩:=B.four
  by_cases hf' : f < 0
  case neg =>
    rw [seeB_no (.inl hf')]
    have ht : True:=trivial
    go_enter Tryz.func46,Tryz.ntmps46
    go_wp2
    go_region
    all_goals
      go_wp2
      go_ret
      first | exact ⟨rfl,K.drew⟩ | exact ⟨by simp [ht],K.drew⟩
  by_cases hk : tk = 2 ∨ tk = 5
  case neg =>
    rw [seeB_no (.inr (.inl hk))]
    have hk2 : ¬ tk = 2:=fun x=>hk (.inl x)
    have hk5 : ¬ tk = 5:=fun x=>hk (.inr x)
    have hk2' : (tk == 2) = false:=by simpa using hk2
    have hk5' : (tk == 5) = false:=by simpa using hk5
    have ht : True:=trivial
    clear hk
    go_enter Tryz.func46,Tryz.ntmps46
    go_wp2
    go_region
    all_goals
      go_wp2
      go_ret
      first | exact ⟨rfl,K.drew⟩ | exact ⟨by simp [ht],K.drew⟩
  by_cases ht : tt = w
  · subst ht
    rw [seeB_yes hf' hk rfl]
    have ht : True:=trivial
    rcases hk with rfl | rfl
    · skip
      go_enter Tryz.func46,Tryz.ntmps46
      go_wp2
      go_region
      all_goals
        go_wp2
        go_ret
        first | exact ⟨rfl,K.drew⟩ | exact ⟨by simp [ht],K.drew⟩
    · skip
      go_enter Tryz.func46,Tryz.ntmps46
      go_wp2
      go_region
      all_goals
        go_wp2
        go_ret
        first | exact ⟨rfl,K.drew⟩ | exact ⟨by simp [ht],K.drew⟩
  · have ht' : ¬ ((⟨tt.toArray⟩ : ByteArray) = ⟨w.toArray⟩):=fun e=>ht ((ba_eq _ _).1 e)
    rw [seeB_no (.inr (.inr ht))]
    rcases hk with rfl | rfl
    · skip
      go_enter Tryz.func46,Tryz.ntmps46
      go_wp2
      go_region
      all_goals
        go_wp2
        go_ret
        first | exact ⟨rfl,K.drew⟩ | exact ⟨by simp [ht],K.drew⟩
    · skip
      go_enter Tryz.func46,Tryz.ntmps46
      go_wp2
      go_region
      all_goals
        go_wp2
        go_ret
        first | exact ⟨rfl,K.drew⟩ | exact ⟨by simp [ht],K.drew⟩
end Go.Proofs.YtlgkfhipobdcfaaGreatDoor

import Derived.Test.YtlgkfhipobdcfaaGreatDoorCg17
import Derived.Test.YtlgkfhipobdcfaaGreatDoorCg29
import Derived.Test.YtlgkfhipobdcfaaGreatDoorCg10
import Derived.Test.YtlgkfhipobdcfaaGreatDoorCg12
namespace Go.Proofs.YtlgkfhipobdcfaaGreatDoor
open Go.RowKit
theorem TN.cap {w : World} {P : Nat → Prop} {k : Int} {t : List UInt8} {n p : Int} {a : Option Addr} {c : Nat} {ks : F} (h : TN 24 w P k t n p (.slice a ks.len c) ks) : ks.len ≤ c ∧ c ≤ maxLen:=by
  obtain ⟨_,xs,own,_⟩:=h.out
  rcases own.2 with ⟨e1,e2⟩ | ⟨g,cap,cur,e1,_,_,h4,h5,_⟩
  · injection e1 with _ _ e3
    exact ⟨by omega,by rw [e3];exact Nat.zero_le _⟩
  · injection e1 with _ _ e3
    rw [e3]
    exact ⟨h4,h5⟩
theorem strs_bytes (l : Tks) : (l.map fun t=>(⟨t.toArray⟩ : ByteArray)).map (·.data.toList) = l:=by
  rw [List.map_map]
  exact (List.map_congr_left (fun t _=>rfl)).trans (List.map_id l)
set_option maxRecDepth 20000 in
set_option maxHeartbeats 8000000 in
theorem Text_ok (s : ByteArray) (w : World) (hs : s.size ≤ 9223372036854775807) {k : Int} {t : List UInt8} {n p : Int} {ks : F} (hp : prT s.data.toList = (one k t n p ks,0,0)) (N : Nat) (hN : N ≤ 800000) (hz : ks.siz < N) (hw : (one k t n p ks).wf = true) (tks : Tks) (ht : tkB fmS quoQ N k t n ks = tks) (hn0 : 0 < tks.length) (hL : tks.length ≤ 1000000) (hj : (Lib.join tks [32]).length ≤ 140737488355328) :
    Calls Tryz.prog 13 #[.string s] w fun e w'=>e = .returned (.tuple #[.string ⟨(Lib.join tks [32]).toArray⟩,.agg #[.int .i64 0,.int .i64 0]]) ∧ Below w.heap.size w w':=by
  have C1:=parse_any s (w.alloc (.cells #[.int .i64 0,.int .i64 0] 27)) hs
  rw [hp] at C1
  have R0:=Bx.new w 27 #[.int .i64 0,.int .i64 0]
  have K0 : Below w.heap.size w (w.alloc (.cells #[.int .i64 0,.int .i64 0] 27)):=(Below.refl _ w).alloc (Nat.le_refl _) _
  obtain ⟨W0,hW0⟩ : ∃ W0,w.alloc (.cells #[.int .i64 0,.int .i64 0] 27) = W0:=⟨_,rfl⟩
  rw [hW0] at C1 R0 K0
  obtain ⟨A,hA⟩ : ∃ A,w.heap.size = A:=⟨_,rfl⟩
  rw [hA] at R0 K0
  have hnq : ∀ W,(binOp .neq 27 (.agg #[.int .i64 0,.int .i64 0]) (.agg #[.int .i64 0,.int .i64 0])).run Tryz.prog W = .ok (.bool false) W:=fun W=>by rw [neq27];simp
  have HR0 : Hid (Bx A 27 #[.int .i64 0,.int .i64 0] W0 ∧ Below A w W0):=⟨R0,K0⟩
  clear R0 K0
  go_enter Tryz.func13,Tryz.ntmps13
  go_wp2_with fail
  refine C1.mono ?_;rintro e w1 ⟨k',t',n',p',a,c,ks',rfl,he,hT,hB⟩
  simp only [one,F.cons.injEq] at he
  obtain ⟨rfl,rfl,rfl,rfl,rfl,-⟩:=he
  have R1:=HR0.out.1.below hB
  have K1 : Below A w w1:=HR0.out.2.trans (hB.mono (by have:=HR0.out.2.size;have:=HR0.out.1.lt;omega))
  have hA1 : A < w1.heap.size:=R1.lt
  have B1:=Bx.new w1 24 #[.int .i64 k,.string ⟨t.toArray⟩,.int .i64 n,.int .i64 p,.slice a ks.len c]
  obtain ⟨X,hX⟩ : ∃ X,w1.heap.size = X:=⟨_,rfl⟩
  have e1 : (w1.alloc (.cells #[.int .i64 (k),.string ⟨(t).toArray⟩,.int .i64 (n),.int .i64 (p),.slice a ks.len c] 24)).heap.size = X + 1:=by simp [hX]
  have B2:=Bx.new (w1.alloc (.cells #[.int .i64 (k),.string ⟨(t).toArray⟩,.int .i64 (n),.int .i64 (p),.slice a ks.len c] 24)) 27 #[.int .i64 0,.int .i64 0]
  have B1':=B1.alloc (.cells #[.int .i64 0,.int .i64 0] 27)
  have R2:=(R1.alloc (.cells #[.int .i64 (k),.string ⟨(t).toArray⟩,.int .i64 (n),.int .i64 (p),.slice a ks.len c] 24)).alloc (.cells #[.int .i64 0,.int .i64 0] 27)
  have K2:=(K1.alloc (by omega) (.cells #[.int .i64 (k),.string ⟨(t).toArray⟩,.int .i64 (n),.int .i64 (p),.slice a ks.len c] 24)).alloc (by rw [e1];omega) (.cells #[.int .i64 0,.int .i64 0] 27)
  have T2:=(hT.mono (Q:=fun g=>g < X) (fun g _ hl=>by omega))
  obtain ⟨p0,p1,p2,p3,p4⟩:=B1'.five
  have y0:=B2.c 0 _ rfl
  have y1:=B2.c 1 _ rfl
  rw [e1] at y0 y1
  rw [hX] at p0 p1 p2 p3 p4
  obtain ⟨W2,hW2⟩ : ∃ W2,(w1.alloc (.cells #[.int .i64 (k),.string ⟨(t).toArray⟩,.int .i64 (n),.int .i64 (p),.slice a ks.len c] 24)).alloc (.cells #[.int .i64 0,.int .i64 0] 27) = W2:=⟨_,rfl⟩
  have hZ2 : W2.heap.size = X + 2:=by rw [← hW2];simp [hX]
  rw [hW2] at R2 K2
  have Rv2 : Rv W2 (fun g=>g < X) a ks:=T2.rv.keep (by rw [hZ2];omega) fun g hg _=>by
    rw [← hW2]
    exact ((Below.refl w1.heap.size w1).alloc (Nat.le_refl _) _ |>.alloc (by simp) _).block g (by omega)
  have HS : Hid (Bx A 27 #[.int .i64 0,.int .i64 0] W2 ∧ Below A w W2 ∧ Rv W2 (fun g=>g < X) a ks ∧ ks.len ≤ c ∧ c ≤ maxLen):=⟨R2,K2,Rv2,hT.cap⟩
  have HW2 : Hid ((w1.alloc (.cells #[.int .i64 (k),.string ⟨(t).toArray⟩,.int .i64 (n),.int .i64 (p),.slice a ks.len c] 24)).alloc (.cells #[.int .i64 0,.int .i64 0] 27) = W2):=hW2
  clear C1 hT hB R1 K1 B1 B2 B1' R2 K2 T2 Rv2 e1 hW2
  go_wp2_with fail
  rw [HW2.out]
  have B3:=Bx.new W2 68 #[.slice none 0 0]
  rw [hZ2] at B3
  have R3:=HS.out.1.alloc (.cells #[.slice none 0 0] 68)
  have K3:=HS.out.2.1.alloc (by rw [hZ2];omega) (.cells #[.slice none 0 0] 68)
  have Rv3 : Rv (W2.alloc (.cells #[.slice none 0 0] 68)) (fun g=>g < X + 2) a ks:=by
    obtain ⟨xs,h1,h2⟩:=HS.out.2.2.1.ex
    refine Rv.keep (w:=W2) ⟨xs,h1.mono (fun g hg _=>by omega),fun hne=>?_⟩ (by simp) (fun g _ hl=>((Below.refl W2.heap.size W2).alloc (Nat.le_refl _) _).block g hl)
    obtain ⟨g,o,e,hP,hg,hc⟩:=h2 hne
    exact ⟨g,o,e,by omega,hg,hc⟩
  have T3 : Te (X + 2) (fun g=>X + 2 < g) [] (W2.alloc (.cells #[.slice none 0 0] 68)):=⟨⟨_,B3,World.ownsRow_nil _ _ _ _,fun g hg=>by simp [Value.ownBlock] at hg⟩,fun x hx=>by omega,fun x hx=>by simp [hZ2] at hx;omega⟩
  have C3:=(tell_all N hN).2.2 (X + 2) _ [] _ k t n p a c ks T3 Rv3 hz hw HS.out.2.2.2 (by rw [ht];simpa using hL)
  rw [ht] at C3
  obtain ⟨W3,hW3⟩ : ∃ W3,W2.alloc (.cells #[.slice none 0 0] 68) = W3:=⟨_,rfl⟩
  rw [hW3] at C3 R3 K3 T3 ⊢
  have HS3 : Hid (Bx A 27 #[.int .i64 0,.int .i64 0] W3 ∧ Below A w W3 ∧ X + 2 < W3.heap.size):=⟨R3,K3,T3.lt⟩
  clear B3 R3 K3 Rv3 T3 HS HW2 hW3 hZ2 p0 p1 p2 p3 p4 y0 y1
  refine C3.mono ?_;rintro e w4 hq
  obtain ⟨v,b4,own4,hP4⟩:=hq.2.1.ex
  have R4:=HS3.out.1.ky hq.2.2 (by omega)
  have K4 : Below A w w4:=HS3.out.2.1.trans ⟨hq.2.2.os,hq.2.2.tape,hq.2.2.output,hq.2.2.size,fun g hg=>hq.2.2.block g (by have:=HS3.out.1.lt;omega) (by omega)⟩
  obtain ⟨rfl,-⟩:=hq
  simp only [List.nil_append] at own4
  obtain ⟨g,cap,hv,hgl,hcap,hcells⟩ : ∃ g cap,v = .slice (some ⟨g,0,none⟩) tks.length cap ∧ g < w4.heap.size ∧ tks.length ≤ cap ∧ ∀ (j : Nat) (x : ByteArray),(tks.map fun t=>(⟨t.toArray⟩ : ByteArray))[j]? = some x → w4.cell? ⟨g,0 + j,none⟩ = some (.string x):=by
    rcases own4.2 with ⟨e1,e2⟩ | ⟨g,cap,cur,e1,_,h3,h4,_,_,r4⟩
    · omega
    · refine ⟨g,cap,e1,(Array.getElem?_eq_some_iff.1 h3).1,h4,fun j x hx=>?_⟩
      rw [cell_of_row w4 g _ cur 9 (0,0) h3,Nat.zero_add]
      have hs4 : (strs tks)[j]? = some (.string x):=by
        simp only [List.getElem?_map,Option.map_eq_some_iff] at hx
        obtain ⟨y,hy,rfl⟩:=hx
        simp [strs,hy]
      rw [← r4,List.getElem?_take] at hs4
      split at hs4
      · simpa using hs4
      · cases hs4
  subst hv
  have d0:=b4.c 0 _ rfl
  have C5:=Tryz.strings_Join g 0 cap (tks.map fun t=>(⟨t.toArray⟩ : ByteArray)) ⟨#[32]⟩ w4 hcells hgl (by simp;omega) (by simpa using hcap) (by rw [strs_bytes];exact hj)
  rw [strs_bytes,List.length_map] at C5
  have HR4 : Hid (Bx A 27 #[.int .i64 0,.int .i64 0] w4 ∧ Below A w w4):=⟨R4,K4⟩
  clear C3 HS3 own4 hP4 R4 K4 b4 hcells
  go_wp2_with fail
  refine C5.mono ?_;rintro e w5 ⟨rfl,hb5⟩
  have R5:=HR4.out.1.below hb5
  have r0:=R5.c 0 _ rfl
  have r1:=R5.c 1 _ rfl
  have f0:=R5.f 0
  have f1:=R5.f 1
  have HB5 : Hid (Below A w w5):=HR4.out.2.trans (hb5.mono (Nat.le_of_lt HR4.out.1.lt))
  have E5:=(R5.put (j:=0) (.int .i64 0)).put (j:=1) (.int .i64 0)
  have z0:=E5.c 0 _ rfl
  have z1:=E5.c 1 _ rfl
  clear C5 hb5 R5 HR4 E5
  go_wp2
  refine bodyPost_ret (v:=.tuple #[.string ⟨(Lib.join tks [32]).toArray⟩,.agg #[.int .i64 0,.int .i64 0]]) (by simp [results,Tryz.results13,go_sem,z0,z1]) rfl ⟨rfl,?_⟩
  rw [hA]
  exact (HB5.out.setCell (Nat.le_refl _) _).setCell (Nat.le_refl _) _
end Go.Proofs.YtlgkfhipobdcfaaGreatDoor







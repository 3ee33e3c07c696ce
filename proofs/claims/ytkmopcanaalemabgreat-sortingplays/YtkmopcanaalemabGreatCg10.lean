import Derived.Test.YtkmopcanaalemabGreatCg09
import Derived.WalkSmall
import Derived.BigRegion
import Derived.Deep.DeepCutAuto
namespace Go.Proofs.YtkmopcanaalemabGreat
open Go.RowKit
set_option maxRecDepth 20000 in
set_option maxHeartbeats 4000000 in
theorem fall_any {No : Nat → Prop} {w : World} {B : Nat} {wv : Value} {T A b a S hb c : Nat} {d : SD} (h : So No w B wv T A b a S hb c d) (hc : c ≤ 900000) (h1 : -4611686018427387904 ≤ d.1.j) (h2 : d.1.j ≤ 4611686018427387904) :
    Calls Tryz.prog 103 #[.pointer (some ⟨B,0,none⟩)] w fun e w'=>e = .returned (tolV (fallR d).2) ∧ So No w' B wv T A b a S hb (c + 1) (fallR d).1 ∧ Keep No w w':=by
  have B1:=b1 w (.cells #[.int .i64 0,.int .i64 0,.string ⟨#[]⟩,.int .i64 0,.int .i64 0,.string ⟨#[]⟩,.bool false,.int .i64 0] 78)
  have R0:=R8.made w
  have z0 : (w.alloc (.cells #[.int .i64 0,.int .i64 0,.string ⟨#[]⟩,.int .i64 0,.int .i64 0,.string ⟨#[]⟩,.bool false,.int .i64 0] 78)).heap.size = w.heap.size + 1:=by simp
  obtain ⟨W0,hW0⟩ : ∃ W0,w.alloc (.cells #[.int .i64 0,.int .i64 0,.string ⟨#[]⟩,.int .i64 0,.int .i64 0,.string ⟨#[]⟩,.bool false,.int .i64 0] 78) = W0:=⟨_,rfl⟩
  rw [hW0] at R0 B1 z0
  have hlt:=h.lt
  have HNo : Hid ((∀ g,No g → g < w.heap.size) ∧ ¬ No B):=⟨fun g q=>by
    obtain ⟨vb,hp⟩:=h.tt.hp
    exact hp.nos _ (.inl (.inl q)),h.nB⟩
  have s0:=h.news B1
  obtain ⟨N2,hN2⟩ : ∃ N2,(fun g=>No g ∨ (w.heap.size ≤ g ∧ g < W0.heap.size)) = N2:=⟨_,rfl⟩
  have HN : Hid ((∀ g,No g → N2 g) ∧ N2 w.heap.size ∧ (∀ g,N2 g → No g ∨ w.heap.size ≤ g)):=by
    subst hN2
    exact ⟨fun g q=>.inl q,.inr ⟨Nat.le_refl _,by omega⟩,fun g q=>q.imp id (fun z=>z.1)⟩
  rw [hN2] at s0
  clear hN2
  have a6 : W0.cell? ⟨B,7,none⟩ = some (.int .i64 d.1.j):=s0.cell (j:=7) rfl
  have f0:=s0.free
  have k1 : Keep (fun g=>g ≠ B) W0 (W0.setCell ⟨B,7,none⟩ (.int .i64 (d.1.j - 1))):=(Keep.refl _ W0).set (p:=⟨B,7,none⟩) (fun q=>q rfl) _
  have s1:=s0.to (k1.sub (fun g q=>q.1)) { d.1 with j:=d.1.j - 1 } ((blk_set (j:=7) s0.blk (.int .i64 (d.1.j - 1))).trans rfl) rfl
  obtain ⟨W1,hW1⟩ : ∃ W1,W0.setCell ⟨B,7,none⟩ (.int .i64 (d.1.j - 1)) = W1:=⟨_,rfl⟩
  rw [hW1] at k1 s1
  have R1:=R0.kept k1 (by show w.heap.size ≠ B;omega)
  have a6' : W1.cell? ⟨B,7,none⟩ = some (.int .i64 (d.1.j - 1)):=s1.1.cell (j:=7) rfl
  have CR:=read_any s1.1 hc (d.1.j - 1) (by omega) (by omega)
  obtain ⟨x,hx⟩ : ∃ x,rdV ({ d.1 with j:=d.1.j - 1 },d.2) (d.1.j - 1) = x:=⟨_,rfl⟩
  rw [hx] at CR
  have HX : Hid (rdV ({ d.1 with j:=d.1.j - 1 },d.2) (d.1.j - 1) = x):=hx
  have HR1 : Hid (R8 W1 w.heap.size (nil,nil,false,0)):=R1
  have HK : Hid (Keep No w W1):=⟨s1.2.os.trans B1.os,s1.2.tape.trans B1.tape,s1.2.output.trans B1.output,Nat.le_trans B1.size s1.2.size,fun g hg q=>(s1.2.block g (by omega) (HN.out.1 g q)).trans (B1.block g hg)⟩
  have wi : IntKind.i64.wrap (d.1.j - 1) = d.1.j - 1:=by rw [IntKind.wrap_i64];omega
  unfold vv vl at CR
  clear hx s0 s1 k1 R0 R1 B1 z0 h
  go_enter Tryz.func103,Tryz.ntmps103
  go_wp2_with fail
  refine CR.mono ?_
  rintro e w2 ⟨rfl,s2,k2⟩
  have b8 : w2.cell? ⟨B,11,none⟩ = some (.int .i64 d.1.y.1):=s2.cell (j:=11) rfl
  have b9 : w2.cell? ⟨B,12,none⟩ = some (.int .i64 d.1.y.2.1):=s2.cell (j:=12) rfl
  have b10 : w2.cell? ⟨B,13,none⟩ = some (.string d.1.y.2.2):=s2.cell (j:=13) rfl
  have f2:=s2.free
  have k3:=stX_keep w2 B 11 x
  have s3:=s2.to (k3.sub (fun g q=>q.1)) { d.1 with j:=d.1.j - 1,y:=x } ((stX_blk s2.blk 11 x).trans rfl) rfl
  have R2:=(HR1.out.kept k2 (.inl HN.out.2.1)).kept k3 (by show w.heap.size ≠ B;omega)
  obtain ⟨W3,hW3⟩ : ∃ W3,stX w2 B 11 x = W3:=⟨_,rfl⟩
  rw [hW3] at k3 s3 R2
  unfold stX at hW3
  have CA:=ask_any s3.1.drew 5 d.1.pv x
  have e8 : W3.cell? ⟨B,11,none⟩ = some (.int .i64 x.1):=s3.1.cell (j:=11) rfl
  have e9 : W3.cell? ⟨B,12,none⟩ = some (.int .i64 x.2.1):=s3.1.cell (j:=12) rfl
  have e10 : W3.cell? ⟨B,13,none⟩ = some (.string x.2.2):=s3.1.cell (j:=13) rfl
  have e14 : W3.cell? ⟨B,14,none⟩ = some (.int .i64 d.1.pv.1):=s3.1.cell (j:=14) rfl
  have e15 : W3.cell? ⟨B,15,none⟩ = some (.int .i64 d.1.pv.2.1):=s3.1.cell (j:=15) rfl
  have e16 : W3.cell? ⟨B,16,none⟩ = some (.string d.1.pv.2.2):=s3.1.cell (j:=16) rfl
  have HK3 : Hid (Keep No w W3):=(HK.out.trans (k2.sub (fun g q=>.inl (HN.out.1 g q)))).trans (k3.sub (fun g q e=>HNo.out.2 (e ▸ q)))
  have HR3 : Hid (R8 W3 w.heap.size (nil,nil,false,0)):=R2
  have HF : Hid (∀ w4,Keep N2 W3.drew w4 → So N2 w4 B wv T A b a S hb (c + 1) (fallR d).1 → R8 w4 w.heap.size (nil,nil,false,0) ∧ R8 (set8 w4 w.heap.size (fallR d).2) w.heap.size (fallR d).2 ∧ So No (set8 w4 w.heap.size (fallR d).2) B wv T A b a S hb (c + 1) (fallR d).1 ∧ Keep No w (set8 w4 w.heap.size (fallR d).2)):=fun w4 k4 s4=>by
    have K4 : Keep N2 W3 w4:=((Keep.refl N2 W3).drew).trans k4
    have r4:=HR3.out.kept K4 HN.out.2.1
    refine ⟨r4,r4.set _,s4.out HN.out.1 ((Keep.refl _ w4).set8 (fun q=>q HN.out.2.1) _),?_⟩
    exact (HK3.out.trans (K4.sub HN.out.1)).set8 (fun q=>by have:=HNo.out.1 _ q;omega) _
  have hT : (fallR d).2 = askT d.1.pv x:=by
    unfold fallR
    simp only [HX.out]
    rfl
  have hD : (fallR d).1 = askD ({ d.1 with j:=d.1.j - 1,y:=x },(rdD ({ d.1 with j:=d.1.j - 1 },d.2) (d.1.j - 1)).2) 5:=by
    unfold fallR
    simp only [HX.out]
    rfl
  rw [← hD] at CA
  unfold vv vl at CA
  clear hD s2 s3 k2 k3 R2 CR HR1 HR3 HK HK3 a6 a6' f0 HX
  go_wp2_with fail
  refine wp_tail 9 (by kernel_rfl) (by kernel_rfl) ?_
  simp only [List.take_succ_cons,List.take_zero,List.drop_succ_cons,List.drop_zero]
  repeat still_step
  refine wpStill_nil ?_
  go_wp2_with fail
  refine CA.mono ?_
  rintro e w4 ⟨rfl,s4,k4⟩
  obtain ⟨r4,r5,s5,k5⟩:=HF.out w4 k4 s4
  rw [hT] at r5 s5 k5
  have HZ : Hid (_ ∧ _ ∧ _):=⟨r5,s5,k5⟩
  obtain ⟨W5,hW5⟩ : ∃ W5,set8 w4 w.heap.size (askT d.1.pv x) = W5:=⟨_,rfl⟩
  rw [hW5] at HZ
  unfold set8 askT at hW5
  unfold tolV askT
  have n0 : w4.cell? ⟨w.heap.size,0,none⟩ = some (.int .i64 0):=r4.cell (j:=0) rfl
  have n1 : w4.cell? ⟨w.heap.size,1,none⟩ = some (.int .i64 0):=r4.cell (j:=1) rfl
  have n2 : w4.cell? ⟨w.heap.size,2,none⟩ = some (.string ⟨#[]⟩):=r4.cell (j:=2) rfl
  have n3 : w4.cell? ⟨w.heap.size,3,none⟩ = some (.int .i64 0):=r4.cell (j:=3) rfl
  have n4 : w4.cell? ⟨w.heap.size,4,none⟩ = some (.int .i64 0):=r4.cell (j:=4) rfl
  have n5 : w4.cell? ⟨w.heap.size,5,none⟩ = some (.string ⟨#[]⟩):=r4.cell (j:=5) rfl
  have n6 : w4.cell? ⟨w.heap.size,6,none⟩ = some (.bool false):=r4.cell (j:=6) rfl
  have n7 : w4.cell? ⟨w.heap.size,7,none⟩ = some (.int .i64 0):=r4.cell (j:=7) rfl
  have nf:=fun j=>r4.free j
  clear r4 r5 s5 k5 s4 k4 HF CA e8 e9 e10 e14 e15 e16
  go_wp2
  obtain ⟨q1,q2,q3⟩:=HZ.out
  have r0 : W5.cell? ⟨w.heap.size,0,none⟩ = some (.int .i64 d.1.pv.1):=q1.cell (j:=0) rfl
  have r1 : W5.cell? ⟨w.heap.size,1,none⟩ = some (.int .i64 d.1.pv.2.1):=q1.cell (j:=1) rfl
  have r2 : W5.cell? ⟨w.heap.size,2,none⟩ = some (.string d.1.pv.2.2):=q1.cell (j:=2) rfl
  have r3 : W5.cell? ⟨w.heap.size,3,none⟩ = some (.int .i64 x.1):=q1.cell (j:=3) rfl
  have r4 : W5.cell? ⟨w.heap.size,4,none⟩ = some (.int .i64 x.2.1):=q1.cell (j:=4) rfl
  have r5 : W5.cell? ⟨w.heap.size,5,none⟩ = some (.string x.2.2):=q1.cell (j:=5) rfl
  have r6 : W5.cell? ⟨w.heap.size,6,none⟩ = some (.bool true):=q1.cell (j:=6) rfl
  have r7 : W5.cell? ⟨w.heap.size,7,none⟩ = some (.int .i64 0):=q1.cell (j:=7) rfl
  exact bodyPost_ret (v:=tolV (askT d.1.pv x)) (by simp [results,Tryz.results103,go_sem,r0,r1,r2,r3,r4,r5,r6,r7,tolV,askT]) rfl ⟨by rw [hT],q2,q3⟩
end Go.Proofs.YtkmopcanaalemabGreat


namespace Go.Proofs.YtkmopcanaalemabGreat
open Go.RowKit
abbrev z8:Obj:=.cells #[.int .i64 0,.int .i64 0,.string ⟨#[]⟩,.int .i64 0,.int .i64 0,.string ⟨#[]⟩,.bool false,.int .i64 0] 78
theorem So.tell {No:Nat→Prop} {w:World} {B:Nat} {wv:Value} {T A b a S hb c:Nat} {d:SD} (h:So No w B wv T A b a S hb c d):
 ∃N2:Nat→Prop,So N2 (w.alloc z8) B wv T A b a S hb c d∧∀w4 wv' A' b' a' c' d' (tl:Tol),Keep N2 (w.alloc z8) w4→So N2 w4 B wv' T A' b' a' S hb c' d'→
  R8 w4 w.heap.size (nil,nil,false,0)∧R8 (set8 w4 w.heap.size tl) w.heap.size tl∧So No (set8 w4 w.heap.size tl) B wv' T A' b' a' S hb c' d'∧Keep No w (set8 w4 w.heap.size tl):=by
 have B1:=b1 w z8
 have R0:=R8.made w
 have z0:(w.alloc z8).heap.size=w.heap.size+1:=by simp
 have hNo:∀g,No g→g<w.heap.size:=fun g q=>by
  obtain ⟨vb,hp⟩:=h.tt.hp
  exact hp.nos _ (.inl (.inl q))
 refine ⟨_,h.news B1,fun w4 wv' A' b' a' c' d' tl k4 s4=>?_⟩
 have hn:(fun g=>No g∨(w.heap.size≤g∧g<(w.alloc z8).heap.size)) w.heap.size:=.inr ⟨Nat.le_refl _,by omega⟩
 have r4:=R0.kept k4 hn
 refine ⟨r4,r4.set _,s4.out (fun g q=>.inl q) ((Keep.refl _ w4).set8 (fun q=>q hn) _),?_⟩
 exact ((Keep.of B1).trans (k4.sub (fun g q=>.inl q))).set8 (fun q=>by have:=hNo _ q;omega) _
theorem R8.eight {w:World} {N:Nat} {t:Tol} (h:R8 w N t):w.cell? ⟨N,0,none⟩=some (.int .i64 t.1.1)∧w.cell? ⟨N,1,none⟩=some (.int .i64 t.1.2.1)∧w.cell? ⟨N,2,none⟩=some (.string t.1.2.2)∧w.cell? ⟨N,3,none⟩=some (.int .i64 t.2.1.1)∧w.cell? ⟨N,4,none⟩=some (.int .i64 t.2.1.2.1)∧w.cell? ⟨N,5,none⟩=some (.string t.2.1.2.2)∧w.cell? ⟨N,6,none⟩=some (.bool t.2.2.1)∧w.cell? ⟨N,7,none⟩=some (.int .i64 t.2.2.2):=
 ⟨h.cell (j:=0) rfl,h.cell (j:=1) rfl,h.cell (j:=2) rfl,h.cell (j:=3) rfl,h.cell (j:=4) rfl,h.cell (j:=5) rfl,h.cell (j:=6) rfl,h.cell (j:=7) rfl⟩
set_option maxRecDepth 20000 in
set_option maxHeartbeats 4000000 in
theorem rising_no {No:Nat→Prop} {w:World} {B:Nat} {wv:Value} {T A b a S hb c:Nat} {d:SD} (h:So No w B wv T A b a S hb c d) (hc:c≤900000) (h1:-4611686018427387904≤d.1.j) (h2:d.1.j≤4611686018427387904):
 Calls Tryz.prog 61 #[.pointer (some ⟨B,0,none⟩),.bool false] w fun e w'=>e= .returned (tolV (fallR d).2)∧So No w' B wv T A b a S hb (c+1) (fallR d).1∧Keep No w w':=by
 obtain ⟨N2,s0,HF0⟩:=h.tell
 have HF:Hid _:=HF0
 have CF:=fall_any s0 hc h1 h2
 obtain ⟨tl,htl⟩:∃tl,(fallR d).2=tl:=⟨_,rfl⟩
 rw[htl] at CF⊢
 obtain ⟨W0,hW0⟩:∃W0,w.alloc z8=W0:=⟨_,rfl⟩
 rw[hW0] at CF HF
 unfold z8 at hW0
 unfold tolV at CF
 clear HF0 s0 h htl
 go_enter Tryz.func61,Tryz.ntmps61
 go_wp2_with fail
 refine CF.mono ?_
 rintro e w4 ⟨rfl,s4,k4⟩
 obtain ⟨r4,r5,s5,k5⟩:=HF.out w4 wv A b a (c+1) (fallR d).1 tl k4 s4
 have HZ:Hid (_∧_∧_):=⟨r5,s5,k5⟩
 obtain ⟨W5,hW5⟩:∃W5,set8 w4 w.heap.size tl=W5:=⟨_,rfl⟩
 rw[hW5] at HZ
 unfold set8 at hW5
 obtain ⟨n0,n1,n2,n3,n4,n5,n6,n7⟩:=r4.eight
 simp only[nil] at n0 n1 n2 n3 n4 n5 n6 n7
 have nf:=fun j=>r4.free j
 clear r4 r5 s5 k5 s4 k4 HF CF
 go_wp2
 obtain ⟨q1,q2,q3⟩:=HZ.out
 obtain ⟨r0,r1,r2,r3,r4,r5,r6,r7⟩:=q1.eight
 exact bodyPost_ret (v:=tolV tl) (by simp[results,Tryz.results61,go_sem,r0,r1,r2,r3,r4,r5,r6,r7,tolV]) rfl ⟨rfl,q2,q3⟩
def GP (No:Nat→Prop) (w:World) (B T S hb c:Nat) (r:SD×Tol) (e:Ending) (w':World):Prop:=
 e= .returned (tolV r.2)∧(∃wv' A' b' a',So No w' B wv' T A' b' a' S hb c r.1)∧Keep No w w'
theorem So.more {No:Nat→Prop} {w:World} {B:Nat} {wv:Value} {T A b a S hb c c':Nat} {d:SD} (h:So No w B wv T A b a S hb c d) (hc:c≤c'):So No w B wv T A b a S hb c' d:=⟨h.blk,h.row,h.tt.more hc,h.nB,h.nW⟩
theorem bdrewN (w:World) (n:Nat):Below w.heap.size w (w.drewN n):=⟨rfl,rfl,rfl,Nat.le_refl _,fun _ _=>rfl⟩
set_option maxRecDepth 20000 in
set_option maxHeartbeats 4000000 in
theorem rising_yes {No:Nat→Prop} {w:World} {B:Nat} {wv:Value} {T A b a S hb c:Nat} {d:SD} (h:So No w B wv T A b a S hb c d) (hc:c≤900000) (h1:-4611686018427387904≤d.1.i) (h2:d.1.i≤4611686018427387904) (h3:-4611686018427387904≤d.1.up) (h4:d.1.up≤4611686018427387904):
 Calls Tryz.prog 61 #[.pointer (some ⟨B,0,none⟩),.bool true] w (GP No w B T S hb (c+1) (risingR d true)):=by
 obtain ⟨N2,s0,HF0⟩:=h.tell
 have HF:Hid _:=HF0
 have a6:(w.alloc z8).cell? ⟨B,6,none⟩=some (.int .i64 d.1.i):=s0.cell (j:=6) rfl
 have a2:(w.alloc z8).cell? ⟨B,2,none⟩=some (.int .i64 d.1.up):=s0.cell (j:=2) rfl
 have wu:IntKind.i64.wrap (d.1.up - 1)=d.1.up - 1:=by rw[IntKind.wrap_i64];omega
 have CR:=fun n=>rise_any (s0.below (bdrewN _ n)) hc h1 h2
 have CE:=fun n=>end_any (s0.below (bdrewN _ n)) 15
 obtain ⟨W0,hW0⟩:∃W0,w.alloc z8=W0:=⟨_,rfl⟩
 rw[hW0] at CR CE HF a6 a2
 unfold z8 at hW0
 have eR:risingR d true=if d.1.i=d.1.up - 1 then (endD d 15,endT 15) else riseR d:=rfl
 rw[eR]
 clear HF0 s0 h eR
 by_cases hi:d.1.i=d.1.up - 1
 ·rw[if_pos hi]
  have hi':(d.1.i==d.1.up - 1)=true:=by simpa using hi
  unfold GP
  obtain ⟨tl,htl⟩:∃tl,endT 15=tl:=⟨_,rfl⟩
  rw[htl] at CE⊢
  unfold tolV at CE
  clear hi CR htl
  go_enter Tryz.func61,Tryz.ntmps61
  go_wp2
  go_quiet (fail)
  go_wp2_with fail
  refine (CE _).mono ?_
  rintro e w4 ⟨rfl,s4,k4⟩
  obtain ⟨r4,r5,s5,k5⟩:=HF.out w4 _ A b a c (endD d 15) tl ((Keep.of (bdrewN _ _)).trans k4) s4
  have HZ:Hid (_∧_∧_):=⟨r5,s5,k5⟩
  obtain ⟨W5,hW5⟩:∃W5,set8 w4 w.heap.size tl=W5:=⟨_,rfl⟩
  rw[hW5] at HZ
  unfold set8 at hW5
  obtain ⟨n0,n1,n2,n3,n4,n5,n6,n7⟩:=r4.eight
  simp only[nil] at n0 n1 n2 n3 n4 n5 n6 n7
  have nf:=fun j=>r4.free j
  clear r4 r5 s5 k5 s4 k4 HF CE
  go_wp2
  obtain ⟨q1,q2,q3⟩:=HZ.out
  obtain ⟨r0,r1,r2,r3,r4,r5,r6,r7⟩:=q1.eight
  exact bodyPost_ret (v:=tolV tl) (by simp[results,Tryz.results61,go_sem,r0,r1,r2,r3,r4,r5,r6,r7,tolV]) rfl ⟨rfl,⟨_,_,_,_,q2.more (by omega)⟩,q3⟩
 ·rw[if_neg hi]
  have hi':(d.1.i==d.1.up - 1)=false:=by simpa using hi
  unfold GP
  obtain ⟨tl,htl⟩:∃tl,(riseR d).2=tl:=⟨_,rfl⟩
  rw[htl] at CR⊢
  unfold tolV at CR
  clear hi CE htl
  go_enter Tryz.func61,Tryz.ntmps61
  go_wp2
  go_quiet (fail)
  go_wp2_with fail
  refine (CR _).mono ?_
  rintro e w4 ⟨rfl,s4,k4⟩
  obtain ⟨r4,r5,s5,k5⟩:=HF.out w4 _ A b a (c+1) (riseR d).1 tl ((Keep.of (bdrewN _ _)).trans k4) s4
  have HZ:Hid (_∧_∧_):=⟨r5,s5,k5⟩
  obtain ⟨W5,hW5⟩:∃W5,set8 w4 w.heap.size tl=W5:=⟨_,rfl⟩
  rw[hW5] at HZ
  unfold set8 at hW5
  obtain ⟨n0,n1,n2,n3,n4,n5,n6,n7⟩:=r4.eight
  simp only[nil] at n0 n1 n2 n3 n4 n5 n6 n7
  have nf:=fun j=>r4.free j
  clear r4 r5 s5 k5 s4 k4 HF CR
  go_wp2
  obtain ⟨q1,q2,q3⟩:=HZ.out
  obtain ⟨r0,r1,r2,r3,r4,r5,r6,r7⟩:=q1.eight
  exact bodyPost_ret (v:=tolV tl) (by simp[results,Tryz.results61,go_sem,r0,r1,r2,r3,r4,r5,r6,r7,tolV]) rfl ⟨rfl,⟨_,_,_,_,q2⟩,q3⟩
theorem rising_any {No:Nat→Prop} {w:World} {B:Nat} {wv:Value} {T A b a S hb c:Nat} {d:SD} (h:So No w B wv T A b a S hb c d) (hc:c≤900000) (h1:-4611686018427387904≤d.1.i) (h2:d.1.i≤4611686018427387904) (h3:-4611686018427387904≤d.1.up) (h4:d.1.up≤4611686018427387904) (h5:-4611686018427387904≤d.1.j) (h6:d.1.j≤4611686018427387904) (less:Bool):
 Calls Tryz.prog 61 #[.pointer (some ⟨B,0,none⟩),.bool less] w (GP No w B T S hb (c+1) (risingR d less)):=by
 cases less with
 | true=>exact rising_yes h hc h1 h2 h3 h4
 | false=>exact (rising_no h hc h5 h6).mono fun e w' hh=>⟨hh.1,⟨_,_,_,_,hh.2.1⟩,hh.2.2⟩
end Go.Proofs.YtkmopcanaalemabGreat


namespace Go.Proofs.YtkmopcanaalemabGreat
open Go.RowKit
theorem rws_snoc (l : List (Int × Int)) (r : Int × Int) : rws (r :: l).reverse = rws l.reverse ++ [.int .i64 r.1,.int .i64 r.2]:=by
  unfold rws
  rw [List.reverse_cons,List.flatMap_append]
  rfl
theorem rws_len (l : List (Int × Int)) : (rws l).length = l.length * 2:=by
  induction l with
  | nil=>rfl
  | cons r l ih =>
    unfold rws at ih ⊢
    rw [List.flatMap_cons,List.length_append,ih]
    simp
    omega
theorem So.to2 {No : Nat → Prop} {w W : World} {B : Nat} {wv wv' : Value} {T A b a S hb c : Nat} {d : SD} (h : So No w B wv T A b a S hb c d) (k : Keep (fun g=>g ≠ B ∧ g < w.heap.size) w W) (s' : SS) (hb' : W.heap[B]? = some (.cells (scl T wv' s') 73 (0,0))) (hr : W.ownsRow (B + 1) 70 2 wv' s'.wt.length (rws s'.wt.reverse)) (hv : ∀ g,wv'.ownBlock = some g → wv.ownBlock = some g) : So No W B wv' T A b a S hb c (s',d.2) ∧ Keep No w W:=by
  refine ⟨⟨hb',hr,?_,h.nB,fun g q=>h.nW g (hv g q)⟩,⟨k.os,k.tape,k.output,k.size,fun g hg q=>k.block g hg ⟨fun e=>h.nB (e ▸ q),hg⟩⟩⟩
  exact (h.tt.frame2 k.os k.tape k.output k.size (fun g hg hn=>k.block g hg ⟨fun e=>hn (.inr (.inl e)),hg⟩)).sub (fun g q=>by
    rcases q with q | q | q
    · exact .inl (.inl q)
    · exact .inl (.inr (.inl q))
    · exact .inl (.inr (.inr (hv g q))))
theorem So.last {No : Nat → Prop} {w : World} {B : Nat} {wv : Value} {T A b a S hb c : Nat} {d : SD} (h : So No w B wv T A b a S hb c d) {r : Int × Int} {l : List (Int × Int)} (hw : d.1.wt = r :: l) :
    ∃ g cap,wv = .slice (some ⟨g,0,none⟩) (l.length + 1) cap ∧ B < g ∧ l.length + 1 ≤ cap ∧ (cap : Int) ≤ 9223372036854775807 ∧ w.cell? ⟨g,l.length * 2,none⟩ = some (.int .i64 r.1) ∧ w.cell? ⟨g,l.length * 2 + 1,none⟩ = some (.int .i64 r.2) ∧
      ∀ W s',Keep (fun g=>g ≠ B ∧ g < w.heap.size) w W → W.heap[B]? = some (.cells (scl T (.slice (some ⟨g,0,none⟩) l.length cap) s') 73 (0,0)) → s'.wt = l → So No W B (.slice (some ⟨g,0,none⟩) l.length cap) T A b a S hb c (s',d.2) ∧ Keep No w W:=by
  have hrow:=h.row
  rw [hw,rws_snoc] at hrow
  simp only [List.length_cons] at hrow
  rcases hrow.2 with ⟨_,h0⟩ | ⟨g,cap,cur,e,hg,hb,hn,hm,hs,ht⟩
  · omega
  · subst e
    have hl:=rws_len l.reverse
    rw [List.length_reverse] at hl
    have c0:=World.ownsRow.cellAt hrow (l.length * 2) (by omega)
    have c1:=World.ownsRow.cellAt hrow (l.length * 2 + 1) (by omega)
    rw [List.getElem?_append_right (by omega),show l.length * 2 - (rws l.reverse).length = 0 by omega] at c0
    rw [List.getElem?_append_right (by omega),show l.length * 2 + 1 - (rws l.reverse).length = 1 by omega] at c1
    refine ⟨g,cap,rfl,by omega,hn,?_,c0,c1,fun W s' k bW ew=>?_⟩
    · unfold maxLen at hm;omega
    · refine h.to2 k s' bW ?_ (fun g' q=>q)
      have hp:=ownsRow_pop (by rw [hl]) hrow
      rw [ew]
      refine ⟨hp.1,?_⟩
      rcases hp.2 with ⟨q,_⟩ | ⟨g',cap',cur',e',q1,q2,q3⟩
      · cases q
      · cases e'
        refine .inr ⟨g,cap,cur',rfl,q1,?_,q3⟩
        have hlt:=(Array.getElem?_eq_some_iff.1 q2).1
        rw [k.block g hlt ⟨by omega,hlt⟩]
        exact q2
end Go.Proofs.YtkmopcanaalemabGreat


namespace Go.Proofs.YtkmopcanaalemabGreat
open Go.RowKit
structure Sk (N2 : Nat → Prop) (W0 w : World) (B : Nat) (wv : Value) (T A b a S hb c : Nat) (d : SD) : Prop where
  so : So N2 w B wv T A b a S hb c d
  kp : Keep N2 W0 w
theorem Sk.below {N2 : Nat → Prop} {W0 w w' : World} {B : Nat} {wv : Value} {T A b a S hb c : Nat} {d : SD} (h : Sk N2 W0 w B wv T A b a S hb c d) (k : Below w.heap.size w w') : Sk N2 W0 w' B wv T A b a S hb c d:=⟨h.so.below k,h.kp.trans (Keep.of k)⟩
theorem Sk.drewN {N2 : Nat → Prop} {W0 w : World} {B : Nat} {wv : Value} {T A b a S hb c : Nat} {d : SD} (h : Sk N2 W0 w B wv T A b a S hb c d) (n : Nat) : Sk N2 W0 (w.drewN n) B wv T A b a S hb c d:=h.below (bdrewN w n)
theorem Sk.more {N2 : Nat → Prop} {W0 w : World} {B : Nat} {wv : Value} {T A b a S hb c c' : Nat} {d : SD} (h : Sk N2 W0 w B wv T A b a S hb c d) (hc : c ≤ c') : Sk N2 W0 w B wv T A b a S hb c' d:=⟨h.so.more hc,h.kp⟩
abbrev va (v : V) : Value:=.agg #[.int .i64 v.1,.int .i64 v.2.1,.string v.2.2]
theorem Sk.rd {N2 : Nat → Prop} {W0 w : World} {B : Nat} {wv : Value} {T A b a S hb c : Nat} {d : SD} (h : Sk N2 W0 w B wv T A b a S hb c d) (hc : c ≤ 900000) (n : Int) (h1 : -9223372036854775808 ≤ n) (h2 : n ≤ 9223372036854775807) (m : Nat) :
    Calls Tryz.prog 100 #[.pointer (some ⟨B,0,none⟩),.int .i64 n] (w.drewN m) fun e w'=>e = .returned (.agg #[.int .i64 (rdV d n).1,.int .i64 (rdV d n).2.1,.string (rdV d n).2.2]) ∧ Sk N2 W0 w' B wv T A b a S hb (c + 1) (rdD d n) :=
  (read_any (h.drewN m).so hc n h1 h2).mono fun _ _ hh=>⟨hh.1,hh.2.1,(h.drewN m).kp.trans (hh.2.2.sub (fun _ q=>.inl q))⟩
theorem Sk.st3 {N2 : Nat → Prop} {W0 w : World} {B : Nat} {wv : Value} {T A b a S hb c : Nat} {d : SD} (h : Sk N2 W0 w B wv T A b a S hb c d) (j : Nat) (x : V) (s' : SS) (hs : scl T wv s' = (((scl T wv d.1).setIfInBounds j (.int .i64 x.1)).setIfInBounds (j + 1) (.int .i64 x.2.1)).setIfInBounds (j + 2) (.string x.2.2)) (hw : s'.wt = d.1.wt) : Sk N2 W0 (stX w B j x) B wv T A b a S hb c (s',d.2):=by
  have k:=stX_keep w B j x
  obtain ⟨q1,q2⟩:=h.so.to (k.sub (fun g q=>q.1)) s' ((stX_blk h.so.blk j x).trans (by rw [hs])) hw
  exact ⟨q1,h.kp.trans q2⟩
theorem Sk.st1 {N2 : Nat → Prop} {W0 w : World} {B : Nat} {wv : Value} {T A b a S hb c : Nat} {d : SD} (h : Sk N2 W0 w B wv T A b a S hb c d) (j : Nat) (x : Int) (s' : SS) (hs : scl T wv s' = (scl T wv d.1).setIfInBounds j (.int .i64 x)) (hw : s'.wt = d.1.wt) : Sk N2 W0 (w.setCell ⟨B,j,none⟩ (.int .i64 x)) B wv T A b a S hb c (s',d.2):=by
  have k : Keep (fun g=>g ≠ B) w (w.setCell ⟨B,j,none⟩ (.int .i64 x)):=(Keep.refl _ w).set (p:=⟨B,j,none⟩) (fun q=>q rfl) _
  obtain ⟨q1,q2⟩:=h.so.to (k.sub (fun g q=>q.1)) s' ((blk_set (j:=j) h.so.blk _).trans (by rw [hs])) hw
  exact ⟨q1,h.kp.trans q2⟩
theorem So.tell2 {No : Nat → Prop} {w : World} {B : Nat} {wv : Value} {T A b a S hb c : Nat} {d : SD} (h : So No w B wv T A b a S hb c d) :
    ∃ N2 : Nat → Prop,Sk N2 (w.alloc z8) (w.alloc z8) B wv T A b a S hb c d ∧ ∀ w4 wv' A' b' a' c' d' (tl : Tol),Sk N2 (w.alloc z8) w4 B wv' T A' b' a' S hb c' d' →
      R8 w4 w.heap.size (nil,nil,false,0) ∧ R8 (set8 w4 w.heap.size tl) w.heap.size tl ∧ So No (set8 w4 w.heap.size tl) B wv' T A' b' a' S hb c' d' ∧ Keep No w (set8 w4 w.heap.size tl):=by
  obtain ⟨N2,s0,hf⟩:=h.tell
  exact ⟨N2,⟨s0,Keep.refl _ _⟩,fun w4 wv' A' b' a' c' d' tl k=>hf w4 wv' A' b' a' c' d' tl k.kp k.so⟩
theorem Sk.en {N2 : Nat → Prop} {W0 w : World} {B : Nat} {wv : Value} {T A b a S hb c : Nat} {d : SD} (h : Sk N2 W0 w B wv T A b a S hb c d) (er : Int) (m : Nat) :
    Calls Tryz.prog 98 #[.pointer (some ⟨B,0,none⟩),.int .i64 er] (w.drewN m) fun e w'=>e = .returned (tolV (endT er)) ∧ Sk N2 W0 w' B (.slice none 0 0) T A b a S hb c (endD d er) :=
  (end_any (h.drewN m).so er).mono fun _ _ hh=>⟨hh.1,hh.2.1,(h.drewN m).kp.trans hh.2.2⟩
def Gk (N2 : Nat → Prop) (W0 : World) (B T S hb c : Nat) (r : SD × Tol) (e : Ending) (w' : World) : Prop:=e = .returned (tolV r.2) ∧ ∃ wv' A' b' a',Sk N2 W0 w' B wv' T A' b' a' S hb c r.1
end Go.Proofs.YtkmopcanaalemabGreat


namespace Go.Proofs.YtkmopcanaalemabGreat
open Go.RowKit
def wlen (w:World) (B:Nat):Nat:=match w.cell? ⟨B,3,none⟩ with | some (.slice _ n _)=>n | _=>0
theorem So.form {No:Nat→Prop} {w:World} {B:Nat} {wv:Value} {T A b a S hb c:Nat} {d:SD} (h:So No w B wv T A b a S hb c d):∃(ad:Option Addr) (cap:Nat),wv= .slice ad d.1.wt.length cap:=by
 rcases h.row.2 with ⟨e,h2⟩ | ⟨g,cap,cur,e,_⟩
 ·exact ⟨none,0,by rw[e,h2]⟩
 ·exact ⟨_,cap,e⟩
theorem So.wlen {No:Nat→Prop} {w:World} {B:Nat} {wv:Value} {T A b a S hb c:Nat} {d:SD} (h:So No w B wv T A b a S hb c d):YtkmopcanaalemabGreat.wlen w B=d.1.wt.length:=by
 obtain ⟨ad,cap,e⟩:=h.form
 have c3:w.cell? ⟨B,3,none⟩=some wv:=h.cell (j:=3) rfl
 unfold YtkmopcanaalemabGreat.wlen
 rw[c3,e]
def Bdr (s:SS):Prop:=∀r∈(s.lo,s.up)::s.wt,r.1<r.2→-4611686018427387904≤r.1∧r.2≤4611686018427387904
theorem nrow_some {s:SS} {t:TS×H.St} (h:s.lo<s.up):nrow (s,t)=(askD ({(rdD (rdD (s,t) s.lo) s.up).1 with x:=rdV (s,t) s.lo,y:=rdV (rdD (s,t) s.lo) s.up},(rdD (rdD (s,t) s.lo) s.up).2) 1,askT (rdV (rdD (s,t) s.lo) s.up) (rdV (s,t) s.lo)):=by
 unfold nrow
 have e:pop s.lo s.up s.wt=some ((s.lo,s.up),s.wt):=by
  cases s.wt with
  | nil=>unfold pop;rw[if_pos h]
  | cons r l=>unfold pop;rw[if_pos h]
 simp only[e]
theorem nrow_end {s:SS} {t:TS×H.St} (h:¬s.lo<s.up) (hw:s.wt=[]):nrow (s,t)=(endD (s,t) 0,endT 0):=by
 unfold nrow
 have e:pop s.lo s.up s.wt=none:=by rw[hw];unfold pop;rw[if_neg h]
 simp only[e]
theorem nrow_next {s:SS} {t:TS×H.St} (h:¬s.lo<s.up) {r:Int×Int} {l:List (Int×Int)} (hw:s.wt=r::l):nrow (s,t)=nrow ({s with lo:=r.1,up:=r.2,wt:=l},t):=by
 unfold nrow
 have e:pop s.lo s.up s.wt=pop r.1 r.2 l:=by rw[hw];conv=>lhs;unfold pop;rw[if_neg h]
 simp only[e]
 cases pop r.1 r.2 l with
 | none=>rfl
 | some q=>rfl
theorem Sk.rd0 {N2:Nat→Prop} {W0 w:World} {B:Nat} {wv:Value} {T A b a S hb c:Nat} {d:SD} (h:Sk N2 W0 w B wv T A b a S hb c d) (hc:c≤900000) (n:Int) (h1:-9223372036854775808≤n) (h2:n≤9223372036854775807):
 Calls Tryz.prog 100 #[.pointer (some ⟨B,0,none⟩),.int .i64 n] w fun e w'=>e= .returned (.agg #[.int .i64 (rdV d n).1,.int .i64 (rdV d n).2.1,.string (rdV d n).2.2])∧Sk N2 W0 w' B wv T A b a S hb (c+1) (rdD d n):=
 (read_any h.so hc n h1 h2).mono fun _ _ hh=>⟨hh.1,hh.2.1,h.kp.trans (hh.2.2.sub (fun _ q=>.inl q))⟩
theorem Sk.ask0 {N2:Nat→Prop} {W0 w:World} {B:Nat} {wv:Value} {T A b a S hb c:Nat} {d:SD} (h:Sk N2 W0 w B wv T A b a S hb c d) (k:Int) (v u:V):
 Calls Tryz.prog 101 #[.pointer (some ⟨B,0,none⟩),.int .i64 k,.agg #[.int .i64 v.1,.int .i64 v.2.1,.string v.2.2],.agg #[.int .i64 u.1,.int .i64 u.2.1,.string u.2.2]] w.drew fun e w'=>e= .returned (tolV (askT v u))∧Sk N2 W0 w' B wv T A b a S hb c (askD d k):=
 (ask_any (h.below (bdrew1 w)).so k v u).mono fun _ _ hh=>⟨hh.1,hh.2.1,(h.below (bdrew1 w)).kp.trans hh.2.2⟩
set_option maxRecDepth 20000 in
set_option maxHeartbeats 4000000 in
theorem nrow_any {No:Nat→Prop} {w:World} {B:Nat} {wv:Value} {T A b a S hb c:Nat} {d:SD} (h:So No w B wv T A b a S hb c d) (hc:c≤800000) (hr:Bdr d.1):
 Calls Tryz.prog 63 #[.pointer (some ⟨B,0,none⟩)] w (GP No w B T S hb (c+2) (nrow d)):=by
 obtain ⟨N2,s0,HF0⟩:=h.tell2
 have HF:Hid _:=HF0
 obtain ⟨W0,hW0⟩:∃W0,w.alloc z8=W0:=⟨_,rfl⟩
 rw[hW0] at HF s0
 unfold z8 at hW0
 obtain ⟨R,hR⟩:∃R,nrow d=R:=⟨_,rfl⟩
 rw[hR]
 have HS:Hid (∃(s':SS) (wv':Value),Sk N2 W0 W0 B wv' T A b a S hb c (s',d.2)∧nrow (s',d.2)=R∧Bdr s'):=⟨d.1,wv,s0,hR,hr⟩
 unfold GP
 clear HF0 h s0 hR hr
 go_enter Tryz.func63,Tryz.ntmps63
 go_wp2
 go_loopw [] (fun wr=>Hid (∃(s':SS) (wv':Value),Sk N2 W0 wr B wv' T A b a S hb c (s',d.2)∧nrow (s',d.2)=R∧Bdr s')) (fun wr=>wlen wr B)
 case atStart=>exact HS
 case round=>
  clear HS
  obtain ⟨s',wv',K,hN,hb'⟩:=hrel.out
  clear hrel
  have c1:wr.cell? ⟨B,1,none⟩=some (.int .i64 s'.lo):=K.so.cell (j:=1) rfl
  have c2:wr.cell? ⟨B,2,none⟩=some (.int .i64 s'.up):=K.so.cell (j:=2) rfl
  have c3:wr.cell? ⟨B,3,none⟩=some wv':=K.so.cell (j:=3) rfl
  have hm:=K.so.wlen
  have HN:Hid (nrow (s',d.2)=R):=hN
  have HB:Hid (Bdr s'):=hb'
  clear hN hb'
  by_cases hlt:s'.lo<s'.up
  ·have hge:¬s'.up≤s'.lo:=by omega
   go_wp2_with fail
   go_quiet (fail)
   go_wp2_with fail
   have hbd:=HB.out (s'.lo,s'.up) (List.mem_cons_self ..) hlt
   simp only at hbd
   have HR:Hid (R=_):=HN.out.symm.trans (nrow_some hlt)
   have C1:=fun m=>K.rd (by omega) s'.lo (by omega) (by omega) m
   obtain ⟨x,hx⟩:∃x,rdV (s',d.2) s'.lo=x:=⟨_,rfl⟩
   obtain ⟨y,hy⟩:∃y,rdV (rdD (s',d.2) s'.lo) s'.up=y:=⟨_,rfl⟩
   rw[hx] at C1 HR
   rw[hy] at HR
   have HC2:Hid (∀w2,Sk N2 W0 w2 B wv' T A b a S hb (c+1) (rdD (s',d.2) s'.lo)→Calls Tryz.prog 100 #[.pointer (some ⟨B,0,none⟩),.int .i64 s'.up] w2 fun e w'=>e= .returned (.agg #[.int .i64 y.1,.int .i64 y.2.1,.string y.2.2])∧Sk N2 W0 w' B wv' T A b a S hb (c+1+1) (rdD (rdD (s',d.2) s'.lo) s'.up)):=fun w2 k2=>(by
    have:=k2.rd0 (by omega) s'.up (by omega) (by omega)
    rw[hy] at this
    exact this)
   clear HN HB hx hy K hm hge hlt
   go_cut [] (fun wx=>Sk N2 W0 wx B wv' T A b a S hb (c+2) ({(rdD (rdD (s',d.2) s'.lo) s'.up).1 with x:=x,y:=y},(rdD (rdD (s',d.2) s'.lo) s'.up).2))
   case first=>
    go_region_with (first
     | (go_at_call 100;(fail_if_success (have kz:=k2));refine (C1 _).mono ?_;rintro e w2 ⟨rfl,k2⟩;have d1:w2.cell? ⟨B,1,none⟩=some (.int .i64 s'.lo):=k2.so.cell (j:=1) rfl;have d2:w2.cell? ⟨B,2,none⟩=some (.int .i64 s'.up):=k2.so.cell (j:=2) rfl)
     | (go_at_call 100;refine (HC2.out w2 k2).mono ?_;rintro e w3 ⟨rfl,k3⟩;have d8:w3.cell? ⟨B,8,none⟩=some (.int .i64 s'.x.1):=k3.so.cell (j:=8) rfl;have d9:w3.cell? ⟨B,9,none⟩=some (.int .i64 s'.x.2.1):=k3.so.cell (j:=9) rfl;have d10:w3.cell? ⟨B,10,none⟩=some (.string s'.x.2.2):=k3.so.cell (j:=10) rfl;have d11:w3.cell? ⟨B,11,none⟩=some (.int .i64 s'.y.1):=k3.so.cell (j:=11) rfl;have d12:w3.cell? ⟨B,12,none⟩=some (.int .i64 s'.y.2.1):=k3.so.cell (j:=12) rfl;have d13:w3.cell? ⟨B,13,none⟩=some (.string s'.y.2.2):=k3.so.cell (j:=13) rfl;have dfz:=k3.so.free))
    all_goals
     go_wp2_with fail
     go_meet
     exact ((k3.more (by omega)).st3 8 x {s' with x:=x} rfl rfl).st3 11 y {s' with x:=x,y:=y} rfl rfl
   case rest=>
    clear C1 HC2
    have CA:Calls Tryz.prog 101 #[.pointer (some ⟨B,0,none⟩),.int .i64 1,.agg #[.int .i64 y.1,.int .i64 y.2.1,.string y.2.2],.agg #[.int .i64 x.1,.int .i64 x.2.1,.string x.2.2]] wc.drew (Gk N2 W0 B T S hb (c+2) R):=(hcut.ask0 1 y x).mono fun _ _ hh=>(by rw[HR.out];exact ⟨hh.1,_,_,_,_,hh.2⟩)
    have d8:wc.cell? ⟨B,8,none⟩=some (.int .i64 x.1):=hcut.so.cell (j:=8) rfl
    have d9:wc.cell? ⟨B,9,none⟩=some (.int .i64 x.2.1):=hcut.so.cell (j:=9) rfl
    have d10:wc.cell? ⟨B,10,none⟩=some (.string x.2.2):=hcut.so.cell (j:=10) rfl
    have d11:wc.cell? ⟨B,11,none⟩=some (.int .i64 y.1):=hcut.so.cell (j:=11) rfl
    have d12:wc.cell? ⟨B,12,none⟩=some (.int .i64 y.2.1):=hcut.so.cell (j:=12) rfl
    have d13:wc.cell? ⟨B,13,none⟩=some (.string y.2.2):=hcut.so.cell (j:=13) rfl
    clear hcut HR c1 c2 c3
    go_wp2_with fail
    refine wp_tail 9 (by kernel_rfl) (by kernel_rfl) ?_
    simp only[List.take_succ_cons,List.take_zero,List.drop_succ_cons,List.drop_zero]
    repeat still_step
    refine wpStill_nil ?_
    go_wp2_with fail
    refine (CA).mono ?_
    rintro e w4 ⟨rfl,wv4,A4,b4,a4,s4⟩
    obtain ⟨r4,r5,s5,k5⟩:=HF.out w4 wv4 A4 b4 a4 _ _ R.2 s4
    have HZ:Hid (_∧_∧_):=⟨r5,s5,k5⟩
    obtain ⟨tl,htl⟩:∃tl,R.2=tl:=⟨_,rfl⟩
    rw[htl] at HZ⊢
    obtain ⟨W5,hW5⟩:∃W5,set8 w4 w.heap.size tl=W5:=⟨_,rfl⟩
    rw[hW5] at HZ
    unfold set8 at hW5
    unfold tolV
    obtain ⟨n0,n1,n2,n3,n4,n5,n6,n7⟩:=r4.eight
    simp only[nil] at n0 n1 n2 n3 n4 n5 n6 n7
    have nf:=fun j=>r4.free j
    clear r4 r5 s5 k5 s4 HF CA
    go_wp2
    obtain ⟨q1,q2,q3⟩:=HZ.out
    obtain ⟨r0,r1,r2,r3,r4,r5,r6,r7⟩:=q1.eight
    exact bodyPost_ret (v:=tolV tl) (by simp[results,Tryz.results63,go_sem,r0,r1,r2,r3,r4,r5,r6,r7,tolV]) rfl ⟨by first | rfl | rw[htl],⟨_,_,_,_,q2.more (by omega)⟩,q3⟩
  ·have hge:s'.up≤s'.lo:=by omega
   cases hw:s'.wt with
   | nil=>
     obtain ⟨ad,cap,ef0⟩:=K.so.form
     have ef:wv'= .slice ad 0 cap:=by rw[ef0];simp only[hw,List.length_nil]
     clear ef0
     subst ef
     have HE:Hid (R=(endD (s',d.2) 0,endT 0)):=HN.out.symm.trans (nrow_end hlt hw)
     have CE:∀m,Calls Tryz.prog 98 #[.pointer (some ⟨B,0,none⟩),.int .i64 0] (wr.drewN m) (Gk N2 W0 B T S hb (c+2) R):=fun m=>(K.en 0 m).mono fun _ _ hh=>(by rw[HE.out];exact ⟨hh.1,_,_,_,_,hh.2.more (by omega)⟩)
     clear HE HN HB hw hlt hm K
     go_wp2_with fail
     go_quiet (fail)
     go_wp2_with fail
     refine (CE _).mono ?_
     rintro e w4 ⟨rfl,wv4,A4,b4,a4,s4⟩
     obtain ⟨r4,r5,s5,k5⟩:=HF.out w4 wv4 A4 b4 a4 _ _ R.2 s4
     have HZ:Hid (_∧_∧_):=⟨r5,s5,k5⟩
     obtain ⟨tl,htl⟩:∃tl,R.2=tl:=⟨_,rfl⟩
     rw[htl] at HZ⊢
     obtain ⟨W5,hW5⟩:∃W5,set8 w4 w.heap.size tl=W5:=⟨_,rfl⟩
     rw[hW5] at HZ
     unfold set8 at hW5
     unfold tolV
     obtain ⟨n0,n1,n2,n3,n4,n5,n6,n7⟩:=r4.eight
     simp only[nil] at n0 n1 n2 n3 n4 n5 n6 n7
     have nf:=fun j=>r4.free j
     clear r4 r5 s5 k5 s4 HF CE
     go_wp2
     obtain ⟨q1,q2,q3⟩:=HZ.out
     obtain ⟨r0,r1,r2,r3,r4,r5,r6,r7⟩:=q1.eight
     exact bodyPost_ret (v:=tolV tl) (by simp[results,Tryz.results63,go_sem,r0,r1,r2,r3,r4,r5,r6,r7,tolV]) rfl ⟨by rw[htl],⟨_,_,_,_,q2.more (by omega)⟩,q3⟩
   | cons r l=>
     obtain ⟨g,cap,ef,hgB,hcap,hcap2,g0,g1,hnew⟩:=K.so.last hw
     subst ef
     have hsub:((l.length:Int)+1) - 1=(l.length:Int):=by omega
     have hsubw:IntKind.i64.wrap ((l.length:Int)+1 - 1)=(l.length:Int):=by rw[IntKind.wrap_i64];omega
     go_wp2_with fail
     go_quiet (fail)
     go_wp2_with fail
     have fB:=K.so.free
     have hlast:l.length<l.length+1:=Nat.lt_succ_self _
     have hn0:¬(l.length:Int)<0:=by omega
     go_region
     all_goals
      go_wp2_with fail
      have kk:Keep (fun x=>x≠B∧x<wr.heap.size) wr ((((wr.drewN (nq+1)).setCell ⟨B,1,none⟩ (.int .i64 r.1)).setCell ⟨B,2,none⟩ (.int .i64 r.2)).setCell ⟨B,3,none⟩ (.slice (some ⟨g,0,none⟩) l.length cap)):=(((Keep.of (bdrewN wr (nq+1))).set (p:=⟨B,1,none⟩) (fun q=>q.1 rfl) _).set (p:=⟨B,2,none⟩) (fun q=>q.1 rfl) _).set (p:=⟨B,3,none⟩) (fun q=>q.1 rfl) _
      have b0:=(K.drewN (nq+1)).so.blk
      have b1':=blk_set (j:=1) b0 (.int .i64 r.1)
      have b2':=blk_set (j:=2) b1' (.int .i64 r.2)
      have b3':=blk_set (j:=3) b2' (.slice (some ⟨g,0,none⟩) l.length cap)
      obtain ⟨q1,q2⟩:=hnew _ {s' with lo:=r.1,up:=r.2,wt:=l} kk (b3'.trans rfl) rfl
      refine ⟨⟨_,_,⟨q1,K.kp.trans q2⟩,(nrow_next (by omega) hw).symm.trans HN.out,fun r' hr'=>HB.out r' (List.mem_cons_of_mem _ (by rw[hw];exact hr'))⟩,?_⟩
      rw[q1.wlen,hm,hw]
      show l.length<l.length+1
      omega
end Go.Proofs.YtkmopcanaalemabGreat


namespace Go.Proofs.YtkmopcanaalemabGreat
open Go.RowKit
theorem putD_eta (d : SD) (a : Int) (v : V) (b : Int) (u : V) : putD d a v b u = (d.1,(putD d a v b u).2):=by
  have e : (putD d a v b u).1 = d.1:=by unfold putD stD;split <;> rfl
  exact Prod.ext e rfl
theorem Sk.pu0 {N2 : Nat → Prop} {W0 w w' : World} {B : Nat} {wv : Value} {T A b a S hb c : Nat} {d : SD} (h : Sk N2 W0 w B wv T A b a S hb c d) (hw : Below w.heap.size w w') (hc : c ≤ 600000) (i1 i2 : Int) (v u : V) (h1 : -9223372036854775808 ≤ i1) (h2 : i1 ≤ 9223372036854775807) (h3 : -9223372036854775808 ≤ i2) (h4 : i2 ≤ 9223372036854775807) :
    Calls Tryz.prog 97 #[.pointer (some ⟨B,0,none⟩),.int .i64 i1,.agg #[.int .i64 v.1,.int .i64 v.2.1,.string v.2.2],.int .i64 i2,.agg #[.int .i64 u.1,.int .i64 u.2.1,.string u.2.2]] w' fun e w'=>e = .returned (.int .i64 (putE d i1 v i2 u)) ∧ ∃ A' b' a',Sk N2 W0 w' B wv T A' b' a' S hb (c + 14) (d.1,(putD d i1 v i2 u).2) :=
  (put_any (h.below hw).so hc i1 i2 v u h1 h2 h3 h4).mono fun _ _ hh=>⟨hh.1,by
    obtain ⟨A',b',a',q⟩:=hh.2.1
    rw [putD_eta] at q
    exact ⟨A',b',a',q,(h.below hw).kp.trans (hh.2.2.sub (fun _ q=>.inl q))⟩⟩
theorem Sk.rdw {N2 : Nat → Prop} {W0 w w' : World} {B : Nat} {wv : Value} {T A b a S hb c : Nat} {d : SD} (h : Sk N2 W0 w B wv T A b a S hb c d) (hw : Below w.heap.size w w') (hc : c ≤ 900000) (n : Int) (h1 : -9223372036854775808 ≤ n) (h2 : n ≤ 9223372036854775807) :
    Calls Tryz.prog 100 #[.pointer (some ⟨B,0,none⟩),.int .i64 n] w' fun e w'=>e = .returned (.agg #[.int .i64 (rdV d n).1,.int .i64 (rdV d n).2.1,.string (rdV d n).2.2]) ∧ Sk N2 W0 w' B wv T A b a S hb (c + 1) (rdD d n):=(h.below hw).rd0 hc n h1 h2
theorem Sk.of0 {N2 : Nat → Prop} {W0 w w' : World} {B : Nat} {wv : Value} {T A b a S hb c c' : Nat} {d : SD} {f : FuncId} {xs : Array Value} {r : SD × Tol} (h : Sk N2 W0 w B wv T A b a S hb c d) (hw : Below w.heap.size w w') (C : ∀ {No : Nat → Prop} {w : World},So No w B wv T A b a S hb c d → Calls Tryz.prog f xs w (GP No w B T S hb c' r)) :
    Calls Tryz.prog f xs w' (Gk N2 W0 B T S hb c' r) :=
  (C (h.below hw).so).mono fun _ _ hh=>⟨hh.1,by
    obtain ⟨wv',A',b',a',q⟩:=hh.2.1
    exact ⟨wv',A',b',a',q,(h.below hw).kp.trans hh.2.2⟩⟩
theorem Sk.en0 {N2 : Nat → Prop} {W0 w w' : World} {B : Nat} {wv : Value} {T A b a S hb c : Nat} {d : SD} (h : Sk N2 W0 w B wv T A b a S hb c d) (hw : Below w.heap.size w w') (er : Int) :
    Calls Tryz.prog 98 #[.pointer (some ⟨B,0,none⟩),.int .i64 er] w' (Gk N2 W0 B T S hb c (endD d er,endT er)) :=
  (end_any (h.below hw).so er).mono fun _ _ hh=>⟨hh.1,_,_,_,_,hh.2.1,(h.below hw).kp.trans hh.2.2⟩
theorem Sk.askw {N2 : Nat → Prop} {W0 w w' : World} {B : Nat} {wv : Value} {T A b a S hb c : Nat} {d : SD} (h : Sk N2 W0 w B wv T A b a S hb c d) (hw : Below w.heap.size w w') (k : Int) (v u : V) :
    Calls Tryz.prog 101 #[.pointer (some ⟨B,0,none⟩),.int .i64 k,.agg #[.int .i64 v.1,.int .i64 v.2.1,.string v.2.2],.agg #[.int .i64 u.1,.int .i64 u.2.1,.string u.2.2]] w' (Gk N2 W0 B T S hb c (askD d k,askT v u)) :=
  (ask_any (h.below hw).so k v u).mono fun _ _ hh=>⟨hh.1,_,_,_,_,hh.2.1,(h.below hw).kp.trans hh.2.2⟩
theorem bself (w : World) : Below w.heap.size w w:=bdrewN w 0
set_option maxRecDepth 20000 in
set_option maxHeartbeats 4000000 in
theorem leave_any {No : Nat → Prop} {w : World} {B : Nat} {wv : Value} {T A b a S hb c : Nat} {d : SD} (h : So No w B wv T A b a S hb c d) (hc : c ≤ 800000) (hr : ∀ r ∈ d.1.wt,r.1 < r.2 → -4611686018427387904 ≤ r.1 ∧ r.2 ≤ 4611686018427387904) :
    Calls Tryz.prog 99 #[.pointer (some ⟨B,0,none⟩)] w (GP No w B T S hb (c + 2) (leaveR d)):=by
  obtain ⟨N2,s0,HF0⟩:=h.tell2
  have HF : Hid _:=HF0
  obtain ⟨W0,hW0⟩ : ∃ W0,w.alloc z8 = W0:=⟨_,rfl⟩
  rw [hW0] at HF s0
  unfold z8 at hW0
  clear HF0
  have a1 : W0.cell? ⟨B,1,none⟩ = some (.int .i64 d.1.lo):=s0.so.cell (j:=1) rfl
  have a2 : W0.cell? ⟨B,2,none⟩ = some (.int .i64 d.1.up):=s0.so.cell (j:=2) rfl
  have f0:=s0.so.free
  have s1:=(s0.st1 1 0 { d.1 with lo:=0 } rfl rfl).st1 2 0 { d.1 with lo:=0,up:=0 } rfl rfl
  obtain ⟨W1,hW1⟩ : ∃ W1,(W0.setCell ⟨B,1,none⟩ (.int .i64 0)).setCell ⟨B,2,none⟩ (.int .i64 0) = W1:=⟨_,rfl⟩
  rw [hW1] at s1
  have C:=s1.of0 (f:=63) (xs:=#[.pointer (some ⟨B,0,none⟩)]) (bself W1) (fun q=>nrow_any q hc (fun r hr' hlt=>by
    rcases List.mem_cons.1 hr' with e | e
    · subst e;exact absurd (show (0 : Int) < 0 from hlt) (by omega)
    · exact hr r e hlt))
  obtain ⟨R,hR⟩ : ∃ R,leaveR d = R:=⟨_,rfl⟩
  have hR' : nrow ({ d.1 with lo:=0,up:=0 },d.2) = R:=hR
  rw [hR]
  simp only at C
  rw [hR'] at C
  unfold GP
  clear h s0 s1 hR hR' hr
  go_enter Tryz.func99,Tryz.ntmps99
  go_wp2_with fail
  refine (C).mono ?_
  rintro e w4 ⟨rfl,wv4,A4,b4,a4,s4⟩
  obtain ⟨r4,r5,s5,k5⟩:=HF.out w4 wv4 A4 b4 a4 _ _ R.2 s4
  have HZ : Hid (_ ∧ _ ∧ _):=⟨r5,s5,k5⟩
  obtain ⟨tl,htl⟩ : ∃ tl,R.2 = tl:=⟨_,rfl⟩
  rw [htl] at HZ ⊢
  obtain ⟨W5,hW5⟩ : ∃ W5,set8 w4 w.heap.size tl = W5:=⟨_,rfl⟩
  rw [hW5] at HZ
  unfold set8 at hW5
  unfold tolV
  obtain ⟨n0,n1,n2,n3,n4,n5,n6,n7⟩:=r4.eight
  simp only [nil] at n0 n1 n2 n3 n4 n5 n6 n7
  have nf:=fun j=>r4.free j
  clear r4 r5 s5 k5 s4 HF C
  go_wp2
  obtain ⟨q1,q2,q3⟩:=HZ.out
  obtain ⟨r0,r1,r2,r3,r4,r5,r6,r7⟩:=q1.eight
  exact bodyPost_ret (v:=tolV tl) (by simp [results,Tryz.results99,go_sem,r0,r1,r2,r3,r4,r5,r6,r7,tolV]) rfl ⟨by first | rfl | rw [htl],⟨_,_,_,_,q2.more (by omega)⟩,q3⟩
end Go.Proofs.YtkmopcanaalemabGreat

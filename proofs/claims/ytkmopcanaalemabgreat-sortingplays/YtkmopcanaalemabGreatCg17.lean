import Derived.Test.YtkmopcanaalemabGreatCg16
import Derived.Test.YtkmopcanaalemabGreatCg10
import Derived.Test.YtkmopcanaalemabGreatCg12
import Derived.BigRegion
import Derived.Deep.DeepCutAuto
import Derived.Test.YtkmopcanaalemabGreatCg08









namespace Go.Proofs.YtkmopcanaalemabGreat
namespace U
section
variable {n : Nat} {Gd : V → Prop} {lt : V → V → Bool} {M : TS → H.St → (Int → V) → Prop}
def s0 (n : Int) : SS:=⟨1,n,[],0,0,0,0,nil,nil,nil,0⟩
def Nx (n : Nat) (s : SS) (f : Int → V) (L : Int) : Prop:=(s = s0 (n : Int) ∧ sq (1,(n : Int)) ≤ L) ∨ (SI n s f ∧ lft s ≤ L)
theorem sq_top (n : Nat) : sq (1,(n : Int)) ≤ (n : Int) * (n : Int):=sq_le (by omega) (by omega)
end
end U
end Go.Proofs.YtkmopcanaalemabGreat


namespace Go.Proofs.YtkmopcanaalemabGreat
namespace U
theorem pop_len : ∀ (l : List (Int × Int)) (lo up : Int) (q : (Int × Int) × List (Int × Int)),pop lo up l = some q → q.2.length ≤ l.length
  | [],lo,up,q,e=>by
    unfold pop at e
    split at e
    · obtain rfl:=Option.some.inj e;exact Nat.le_refl _
    · cases e
  | r :: l,lo,up,q,e=>by
    unfold pop at e
    split at e
    · obtain rfl:=Option.some.inj e;exact Nat.le_refl _
    · exact Nat.le_succ_of_le (pop_len l r.1 r.2 q e)
theorem nrow_len (d : SD) : (nrow d).1.1.wt.length ≤ d.1.wt.length:=by
  unfold nrow
  cases h : pop d.1.lo d.1.up d.1.wt with
  | none=>exact Nat.zero_le _
  | some q=>exact pop_len _ _ _ _ h
theorem put_wt (d : SD) (a : Int) (v : V) (b : Int) (u : V) : (putD d a v b u).1 = d.1:=by unfold putD stD;split <;> rfl
theorem split_len (d : SD) : (splitR d).1.1.wt.length ≤ d.1.wt.length:=by
  unfold splitR
  split
  · exact nrow_len _
  · simp only
    split
    · exact Nat.zero_le _
    · show (putD _ _ _ _ _).1.wt.length ≤ _
      rw [put_wt]
      exact Nat.le_refl _
theorem part_len (d : SD) : (partR d).1.1.wt.length ≤ d.1.wt.length + 1:=by
  unfold partR
  simp only
  split
  · exact Nat.zero_le _
  · split
    · refine Nat.le_trans (nrow_len _) ?_
      show ((d.1.lo,d.1.i - 1) :: (putD _ _ _ _ _).1.wt).length ≤ _
      rw [put_wt]
      exact Nat.le_refl _
    · refine Nat.le_trans (nrow_len _) ?_
      show ((d.1.i + 1,d.1.up) :: (putD _ _ _ _ _).1.wt).length ≤ _
      rw [put_wt]
      exact Nat.le_refl _
theorem go_len (d : SD) (less : Bool) : (goR d less).1.1.wt.length ≤ d.1.wt.length + 1:=by
  unfold goR
  split
  · unfold endsR
    have hd : (if less = true then putD d d.1.lo d.1.y d.1.up d.1.x else d).1.wt = d.1.wt:=by
      split
      · rw [put_wt]
      · rfl
    generalize (if less = true then putE d d.1.lo d.1.y d.1.up d.1.x else 0) = e at *
    generalize (if less = true then putD d d.1.lo d.1.y d.1.up d.1.x else d) = d1 at *
    simp only
    split
    · exact Nat.zero_le _
    · split
      · refine Nat.le_trans (nrow_len _) ?_
        show d1.1.wt.length ≤ _
        rw [hd];exact Nat.le_succ _
      · show d1.1.wt.length ≤ _
        rw [hd];exact Nat.le_succ _
  · split
    · unfold lowR
      split
      · simp only
        split
        · exact Nat.zero_le _
        · refine Nat.le_trans (split_len _) ?_
          rw [put_wt];exact Nat.le_succ _
      · exact Nat.le_succ _
    · split
      · unfold highR
        split
        · simp only
          split
          · exact Nat.zero_le _
          · refine Nat.le_trans (split_len _) ?_
            rw [put_wt];exact Nat.le_succ _
        · exact Nat.le_trans (split_len _) (Nat.le_succ _)
      · split
        · unfold risingR
          split
          · split
            · exact Nat.zero_le _
            · exact Nat.le_succ _
          · exact Nat.le_succ _
        · split
          · unfold fallingR
            split
            · split
              · exact Nat.zero_le _
              · exact Nat.le_succ _
            · split
              · exact part_len _
              · simp only
                split
                · exact Nat.zero_le _
                · show (putD _ _ _ _ _).1.wt.length ≤ _
                  rw [put_wt];exact Nat.le_succ _
          · split
            · exact Nat.le_succ _
            · exact Nat.le_trans (nrow_len _) (Nat.le_succ _)
end U
end Go.Proofs.YtkmopcanaalemabGreat


namespace Go.Proofs.YtkmopcanaalemabGreat
structure Fit (s : SS) : Prop where
  row : Bdr s
  lo : 1 ≤ s.ak → s.ak ≤ 5 → (-2305843009213693952 ≤ s.lo ∧ s.lo ≤ 2305843009213693952) ∧ (-2305843009213693952 ≤ s.up ∧ s.up ≤ 2305843009213693952) ∧ s.lo < s.up
  p : s.ak = 2 ∨ s.ak = 3 → -2305843009213693952 ≤ s.p ∧ s.p ≤ 2305843009213693952
  i : s.ak = 4 ∨ s.ak = 5 → -2305843009213693952 ≤ s.i ∧ s.i ≤ 2305843009213693952
  j : s.ak = 4 ∨ s.ak = 5 → -2305843009213693952 ≤ s.j ∧ s.j ≤ 2305843009213693952
  wl : s.wt.length ≤ 900000
theorem Fit.wt {s : SS} (h : Fit s) : ∀ r ∈ s.wt,r.1 < r.2 → -4611686018427387904 ≤ r.1 ∧ r.2 ≤ 4611686018427387904:=fun r hr=>h.row r (List.mem_cons_of_mem _ hr)
theorem U.Nx.fit {n : Nat} {s : SS} {f : Int → V} {L : Int} (h : U.Nx n s f L) (hn : n ≤ 1000000) (hw : s.wt.length ≤ 900000) : Fit s ∧ 0 ≤ s.ak ∧ s.ak ≤ 6:=by
  rcases h with ⟨e,_⟩ | ⟨hi,_⟩
  · subst e
    refine ⟨⟨fun r hr hlt=>?_,fun q=>absurd (show (1 : Int) ≤ 0 from q) (by omega),fun q=>?_,fun q=>?_,fun q=>?_,hw⟩,Int.le_refl _,by show (0 : Int) ≤ 6;omega⟩
    · rcases List.mem_cons.1 hr with e | e
      · subst e
        have h1 : ((U.s0 (n : Int)).lo,(U.s0 (n : Int)).up).1 = 1:=rfl
        have h2 : ((U.s0 (n : Int)).lo,(U.s0 (n : Int)).up).2 = (n : Int):=rfl
        rw [h1,h2]
        omega
      · cases e
    · rcases q with q | q
      · exact absurd (show (0 : Int) = 2 from q) (by omega)
      · exact absurd (show (0 : Int) = 3 from q) (by omega)
    · rcases q with q | q
      · exact absurd (show (0 : Int) = 4 from q) (by omega)
      · exact absurd (show (0 : Int) = 5 from q) (by omega)
    · rcases q with q | q
      · exact absurd (show (0 : Int) = 4 from q) (by omega)
      · exact absurd (show (0 : Int) = 5 from q) (by omega)
  · have h1:=hi.lt
    have h2:=hi.lo
    have h3:=hi.up
    refine ⟨⟨fun r hr hlt=>?_,fun _ _=>⟨⟨by omega,by omega⟩,⟨by omega,by omega⟩,h1⟩,fun q=>?_,fun q=>?_,fun q=>?_,hw⟩,?_⟩
    · rcases List.mem_cons.1 hr with e | e
      · subst e
        simp only
        omega
      · have:=hi.wt r e hlt
        omega
    · rcases hi.st with z | z | z | z | z <;> omega
    · rcases hi.st with z | z | z | z | z <;> omega
    · rcases hi.st with z | z | z | z | z <;> omega
    · rcases hi.st with z | z | z | z | z <;> omega
end Go.Proofs.YtkmopcanaalemabGreat


namespace Go.Proofs.YtkmopcanaalemabGreat
open Go.RowKit
theorem low_any {No:Nat→Prop} {w:World} {B:Nat} {wv:Value} {T A b a S hb c:Nat} {d:SD} (h:So No w B wv T A b a S hb c d) (hc:c≤400000) (b1:-2305843009213693952≤d.1.lo) (b2:d.1.lo≤2305843009213693952) (b3:-2305843009213693952≤d.1.up) (b4:d.1.up≤2305843009213693952) (b5:-2305843009213693952≤d.1.p) (b6:d.1.p≤2305843009213693952) (hr:∀r∈d.1.wt,r.1<r.2→-4611686018427387904≤r.1∧r.2≤4611686018427387904) (less:Bool):
 Calls Tryz.prog 59 #[.pointer (some ⟨B,0,none⟩),.bool less] w (GP No w B T S hb (c+31) (lowR d less)):=by
 cases less with
 | true=>exact low_y h hc b1 b2 b3 b4 b5 b6 hr
 | false=>exact low_n h hc b3 b4
theorem high_any {No:Nat→Prop} {w:World} {B:Nat} {wv:Value} {T A b a S hb c:Nat} {d:SD} (h:So No w B wv T A b a S hb c d) (hc:c≤400000) (b1:-2305843009213693952≤d.1.lo) (b2:d.1.lo≤2305843009213693952) (b3:-2305843009213693952≤d.1.up) (b4:d.1.up≤2305843009213693952) (b5:-2305843009213693952≤d.1.p) (b6:d.1.p≤2305843009213693952) (hr:∀r∈d.1.wt,r.1<r.2→-4611686018427387904≤r.1∧r.2≤4611686018427387904) (less:Bool):
 Calls Tryz.prog 60 #[.pointer (some ⟨B,0,none⟩),.bool less] w (GP No w B T S hb (c+31) (highR d less)):=by
 cases less with
 | true=>exact high_y h hc b1 b2 b3 b4 b5 b6 hr
 | false=>exact high_n h hc b1 b2 b3 b4 b5 b6 hr
set_option maxRecDepth 20000 in
set_option maxHeartbeats 4000000 in
theorem goOn_1 {No:Nat→Prop} {w:World} {B:Nat} {wv:Value} {T A b a S hb c:Nat} {d:SD} (h:So No w B wv T A b a S hb c d) (hc:c≤400000) (hf:Fit d.1) (less:Bool) (ea:d.1.ak=1):
 Calls Tryz.prog 28 #[.pointer (some ⟨B,0,none⟩),.bool less] w (GP No w B T S hb (c+31) (goR d less)):=by
 obtain ⟨N2,s0,HF0⟩:=h.tell2
 have HF:Hid _:=HF0
 obtain ⟨W0,hW0⟩:∃W0,w.alloc z8=W0:=⟨_,rfl⟩
 rw[hW0] at HF s0
 unfold z8 at hW0
 clear HF0
 have a4:W0.cell? ⟨B,4,none⟩=some (.int .i64 1):=by
  have e:W0.cell? ⟨B,4,none⟩=some (.int .i64 d.1.ak):=s0.so.cell (j:=4) rfl
  rw[ea] at e
  exact e
 obtain ⟨⟨b1,b2⟩,⟨b3,b4⟩,hlt⟩:=hf.lo (by omega) (by omega)
 have C:=s0.of0 (f:=58) (xs:=#[.pointer (some ⟨B,0,none⟩),.bool less]) (bself W0) (fun q=>ends_any q (by omega) b1 b2 b3 b4 hlt hf.wt less)
 obtain ⟨R,hR⟩:∃R,goR d less=R:=⟨_,rfl⟩
 have eR:endsR d less=R:=by rw[←hR];unfold goR;rw[if_pos ea]
 rw[hR]
 rw[eR] at C
 unfold GP
 clear h s0 hR eR hf ea
 go_enter Tryz.func28,Tryz.ntmps28
 go_wp2_with fail
 refine (C).mono ?_
 rintro e w4 ⟨rfl,wv4,A4,b4,a4,s4⟩
 obtain ⟨r4,r5,s5,k5⟩:=HF.out w4 wv4 A4 b4 a4 _ _ R.2 s4
 have HZ:Hid (_∧_∧_):=⟨r5,s5,k5⟩
 obtain ⟨tl,htl⟩:∃tl,R.2=tl:=⟨_,rfl⟩
 rw[htl] at HZ⊢
 obtain ⟨W5,hW5⟩:∃W5,set8 w4 w.heap.size tl=W5:=⟨_,rfl⟩
 rw[hW5] at HZ
 unfold set8 at hW5
 unfold tolV
 obtain ⟨n0,n1,n2,n3,n4,n5,n6,n7⟩:=r4.eight
 simp only[nil] at n0 n1 n2 n3 n4 n5 n6 n7
 have nf:=fun j=>r4.free j
 clear r4 r5 s5 k5 s4 HF C
 go_wp2
 obtain ⟨q1,q2,q3⟩:=HZ.out
 obtain ⟨r0,r1,r2,r3,r4,r5,r6,r7⟩:=q1.eight
 exact bodyPost_ret (v:=tolV tl) (by simp[results,Tryz.results28,go_sem,r0,r1,r2,r3,r4,r5,r6,r7,tolV]) rfl ⟨by first | rfl | rw[htl],⟨_,_,_,_,q2.more (by omega)⟩,q3⟩
set_option maxRecDepth 20000 in
set_option maxHeartbeats 4000000 in
theorem goOn_2 {No:Nat→Prop} {w:World} {B:Nat} {wv:Value} {T A b a S hb c:Nat} {d:SD} (h:So No w B wv T A b a S hb c d) (hc:c≤400000) (hf:Fit d.1) (less:Bool) (ea:d.1.ak=2):
 Calls Tryz.prog 28 #[.pointer (some ⟨B,0,none⟩),.bool less] w (GP No w B T S hb (c+31) (goR d less)):=by
 obtain ⟨N2,s0,HF0⟩:=h.tell2
 have HF:Hid _:=HF0
 obtain ⟨W0,hW0⟩:∃W0,w.alloc z8=W0:=⟨_,rfl⟩
 rw[hW0] at HF s0
 unfold z8 at hW0
 clear HF0
 have a4:W0.cell? ⟨B,4,none⟩=some (.int .i64 2):=by
  have e:W0.cell? ⟨B,4,none⟩=some (.int .i64 d.1.ak):=s0.so.cell (j:=4) rfl
  rw[ea] at e
  exact e
 obtain ⟨⟨b1,b2⟩,⟨b3,b4⟩,hlt⟩:=hf.lo (by omega) (by omega)
 obtain ⟨b5,b6⟩:=hf.p (by omega)
 have hw:=hf.wt
 have C:=s0.of0 (f:=59) (xs:=#[.pointer (some ⟨B,0,none⟩),.bool less]) (bself W0) (fun q=>low_any q (by omega) b1 b2 b3 b4 b5 b6 hw less)
 clear hlt
 obtain ⟨R,hR⟩:∃R,goR d less=R:=⟨_,rfl⟩
 have eR:lowR d less=R:=by rw[←hR];unfold goR;rw[if_neg (by omega),if_pos ea]
 rw[hR]
 rw[eR] at C
 unfold GP
 clear h s0 hR eR hf ea
 go_enter Tryz.func28,Tryz.ntmps28
 go_wp2_with fail
 refine (C).mono ?_
 rintro e w4 ⟨rfl,wv4,A4,b4,a4,s4⟩
 obtain ⟨r4,r5,s5,k5⟩:=HF.out w4 wv4 A4 b4 a4 _ _ R.2 s4
 have HZ:Hid (_∧_∧_):=⟨r5,s5,k5⟩
 obtain ⟨tl,htl⟩:∃tl,R.2=tl:=⟨_,rfl⟩
 rw[htl] at HZ⊢
 obtain ⟨W5,hW5⟩:∃W5,set8 w4 w.heap.size tl=W5:=⟨_,rfl⟩
 rw[hW5] at HZ
 unfold set8 at hW5
 unfold tolV
 obtain ⟨n0,n1,n2,n3,n4,n5,n6,n7⟩:=r4.eight
 simp only[nil] at n0 n1 n2 n3 n4 n5 n6 n7
 have nf:=fun j=>r4.free j
 clear r4 r5 s5 k5 s4 HF C
 go_wp2
 obtain ⟨q1,q2,q3⟩:=HZ.out
 obtain ⟨r0,r1,r2,r3,r4,r5,r6,r7⟩:=q1.eight
 exact bodyPost_ret (v:=tolV tl) (by simp[results,Tryz.results28,go_sem,r0,r1,r2,r3,r4,r5,r6,r7,tolV]) rfl ⟨by first | rfl | rw[htl],⟨_,_,_,_,q2.more (by omega)⟩,q3⟩
set_option maxRecDepth 20000 in
set_option maxHeartbeats 4000000 in
theorem goOn_3 {No:Nat→Prop} {w:World} {B:Nat} {wv:Value} {T A b a S hb c:Nat} {d:SD} (h:So No w B wv T A b a S hb c d) (hc:c≤400000) (hf:Fit d.1) (less:Bool) (ea:d.1.ak=3):
 Calls Tryz.prog 28 #[.pointer (some ⟨B,0,none⟩),.bool less] w (GP No w B T S hb (c+31) (goR d less)):=by
 obtain ⟨N2,s0,HF0⟩:=h.tell2
 have HF:Hid _:=HF0
 obtain ⟨W0,hW0⟩:∃W0,w.alloc z8=W0:=⟨_,rfl⟩
 rw[hW0] at HF s0
 unfold z8 at hW0
 clear HF0
 have a4:W0.cell? ⟨B,4,none⟩=some (.int .i64 3):=by
  have e:W0.cell? ⟨B,4,none⟩=some (.int .i64 d.1.ak):=s0.so.cell (j:=4) rfl
  rw[ea] at e
  exact e
 obtain ⟨⟨b1,b2⟩,⟨b3,b4⟩,hlt⟩:=hf.lo (by omega) (by omega)
 obtain ⟨b5,b6⟩:=hf.p (by omega)
 have hw:=hf.wt
 have C:=s0.of0 (f:=60) (xs:=#[.pointer (some ⟨B,0,none⟩),.bool less]) (bself W0) (fun q=>high_any q (by omega) b1 b2 b3 b4 b5 b6 hw less)
 clear hlt
 obtain ⟨R,hR⟩:∃R,goR d less=R:=⟨_,rfl⟩
 have eR:highR d less=R:=by rw[←hR];unfold goR;rw[if_neg (by omega),if_neg (by omega),if_pos ea]
 rw[hR]
 rw[eR] at C
 unfold GP
 clear h s0 hR eR hf ea
 go_enter Tryz.func28,Tryz.ntmps28
 go_wp2_with fail
 refine (C).mono ?_
 rintro e w4 ⟨rfl,wv4,A4,b4,a4,s4⟩
 obtain ⟨r4,r5,s5,k5⟩:=HF.out w4 wv4 A4 b4 a4 _ _ R.2 s4
 have HZ:Hid (_∧_∧_):=⟨r5,s5,k5⟩
 obtain ⟨tl,htl⟩:∃tl,R.2=tl:=⟨_,rfl⟩
 rw[htl] at HZ⊢
 obtain ⟨W5,hW5⟩:∃W5,set8 w4 w.heap.size tl=W5:=⟨_,rfl⟩
 rw[hW5] at HZ
 unfold set8 at hW5
 unfold tolV
 obtain ⟨n0,n1,n2,n3,n4,n5,n6,n7⟩:=r4.eight
 simp only[nil] at n0 n1 n2 n3 n4 n5 n6 n7
 have nf:=fun j=>r4.free j
 clear r4 r5 s5 k5 s4 HF C
 go_wp2
 obtain ⟨q1,q2,q3⟩:=HZ.out
 obtain ⟨r0,r1,r2,r3,r4,r5,r6,r7⟩:=q1.eight
 exact bodyPost_ret (v:=tolV tl) (by simp[results,Tryz.results28,go_sem,r0,r1,r2,r3,r4,r5,r6,r7,tolV]) rfl ⟨by first | rfl | rw[htl],⟨_,_,_,_,q2.more (by omega)⟩,q3⟩
set_option maxRecDepth 20000 in
set_option maxHeartbeats 4000000 in
theorem goOn_4 {No:Nat→Prop} {w:World} {B:Nat} {wv:Value} {T A b a S hb c:Nat} {d:SD} (h:So No w B wv T A b a S hb c d) (hc:c≤400000) (hf:Fit d.1) (less:Bool) (ea:d.1.ak=4):
 Calls Tryz.prog 28 #[.pointer (some ⟨B,0,none⟩),.bool less] w (GP No w B T S hb (c+31) (goR d less)):=by
 obtain ⟨N2,s0,HF0⟩:=h.tell2
 have HF:Hid _:=HF0
 obtain ⟨W0,hW0⟩:∃W0,w.alloc z8=W0:=⟨_,rfl⟩
 rw[hW0] at HF s0
 unfold z8 at hW0
 clear HF0
 have a4:W0.cell? ⟨B,4,none⟩=some (.int .i64 4):=by
  have e:W0.cell? ⟨B,4,none⟩=some (.int .i64 d.1.ak):=s0.so.cell (j:=4) rfl
  rw[ea] at e
  exact e
 obtain ⟨⟨b1,b2⟩,⟨b3,b4⟩,hlt⟩:=hf.lo (by omega) (by omega)
 obtain ⟨b7,b8⟩:=hf.i (by omega)
 obtain ⟨b9,b10⟩:=hf.j (by omega)
 have C:=s0.of0 (f:=61) (xs:=#[.pointer (some ⟨B,0,none⟩),.bool less]) (bself W0) (fun q=>rising_any q (by omega) (by omega) (by omega) (by omega) (by omega) (by omega) (by omega) less)
 clear hlt
 obtain ⟨R,hR⟩:∃R,goR d less=R:=⟨_,rfl⟩
 have eR:risingR d less=R:=by rw[←hR];unfold goR;rw[if_neg (by omega),if_neg (by omega),if_neg (by omega),if_pos ea]
 rw[hR]
 rw[eR] at C
 unfold GP
 clear h s0 hR eR hf ea
 go_enter Tryz.func28,Tryz.ntmps28
 go_wp2_with fail
 refine (C).mono ?_
 rintro e w4 ⟨rfl,wv4,A4,b4,a4,s4⟩
 obtain ⟨r4,r5,s5,k5⟩:=HF.out w4 wv4 A4 b4 a4 _ _ R.2 s4
 have HZ:Hid (_∧_∧_):=⟨r5,s5,k5⟩
 obtain ⟨tl,htl⟩:∃tl,R.2=tl:=⟨_,rfl⟩
 rw[htl] at HZ⊢
 obtain ⟨W5,hW5⟩:∃W5,set8 w4 w.heap.size tl=W5:=⟨_,rfl⟩
 rw[hW5] at HZ
 unfold set8 at hW5
 unfold tolV
 obtain ⟨n0,n1,n2,n3,n4,n5,n6,n7⟩:=r4.eight
 simp only[nil] at n0 n1 n2 n3 n4 n5 n6 n7
 have nf:=fun j=>r4.free j
 clear r4 r5 s5 k5 s4 HF C
 go_wp2
 obtain ⟨q1,q2,q3⟩:=HZ.out
 obtain ⟨r0,r1,r2,r3,r4,r5,r6,r7⟩:=q1.eight
 exact bodyPost_ret (v:=tolV tl) (by simp[results,Tryz.results28,go_sem,r0,r1,r2,r3,r4,r5,r6,r7,tolV]) rfl ⟨by first | rfl | rw[htl],⟨_,_,_,_,q2.more (by omega)⟩,q3⟩
set_option maxRecDepth 20000 in
set_option maxHeartbeats 4000000 in
theorem goOn_5 {No:Nat→Prop} {w:World} {B:Nat} {wv:Value} {T A b a S hb c:Nat} {d:SD} (h:So No w B wv T A b a S hb c d) (hc:c≤400000) (hf:Fit d.1) (less:Bool) (ea:d.1.ak=5):
 Calls Tryz.prog 28 #[.pointer (some ⟨B,0,none⟩),.bool less] w (GP No w B T S hb (c+31) (goR d less)):=by
 obtain ⟨N2,s0,HF0⟩:=h.tell2
 have HF:Hid _:=HF0
 obtain ⟨W0,hW0⟩:∃W0,w.alloc z8=W0:=⟨_,rfl⟩
 rw[hW0] at HF s0
 unfold z8 at hW0
 clear HF0
 have a4:W0.cell? ⟨B,4,none⟩=some (.int .i64 5):=by
  have e:W0.cell? ⟨B,4,none⟩=some (.int .i64 d.1.ak):=s0.so.cell (j:=4) rfl
  rw[ea] at e
  exact e
 obtain ⟨⟨b1,b2⟩,⟨b3,b4⟩,hlt⟩:=hf.lo (by omega) (by omega)
 obtain ⟨b7,b8⟩:=hf.i (by omega)
 obtain ⟨b9,b10⟩:=hf.j (by omega)
 have C:=s0.of0 (f:=62) (xs:=#[.pointer (some ⟨B,0,none⟩),.bool less]) (bself W0) (fun q=>falling_any q (by omega) b1 b2 b3 b4 b7 b8 b9 b10 hf.wl hf.wt less)
 clear hlt
 obtain ⟨R,hR⟩:∃R,goR d less=R:=⟨_,rfl⟩
 have eR:fallingR d less=R:=by rw[←hR];unfold goR;rw[if_neg (by omega),if_neg (by omega),if_neg (by omega),if_neg (by omega),if_pos ea]
 rw[hR]
 rw[eR] at C
 unfold GP
 clear h s0 hR eR hf ea
 go_enter Tryz.func28,Tryz.ntmps28
 go_wp2_with fail
 refine (C).mono ?_
 rintro e w4 ⟨rfl,wv4,A4,b4,a4,s4⟩
 obtain ⟨r4,r5,s5,k5⟩:=HF.out w4 wv4 A4 b4 a4 _ _ R.2 s4
 have HZ:Hid (_∧_∧_):=⟨r5,s5,k5⟩
 obtain ⟨tl,htl⟩:∃tl,R.2=tl:=⟨_,rfl⟩
 rw[htl] at HZ⊢
 obtain ⟨W5,hW5⟩:∃W5,set8 w4 w.heap.size tl=W5:=⟨_,rfl⟩
 rw[hW5] at HZ
 unfold set8 at hW5
 unfold tolV
 obtain ⟨n0,n1,n2,n3,n4,n5,n6,n7⟩:=r4.eight
 simp only[nil] at n0 n1 n2 n3 n4 n5 n6 n7
 have nf:=fun j=>r4.free j
 clear r4 r5 s5 k5 s4 HF C
 go_wp2
 obtain ⟨q1,q2,q3⟩:=HZ.out
 obtain ⟨r0,r1,r2,r3,r4,r5,r6,r7⟩:=q1.eight
 exact bodyPost_ret (v:=tolV tl) (by simp[results,Tryz.results28,go_sem,r0,r1,r2,r3,r4,r5,r6,r7,tolV]) rfl ⟨by first | rfl | rw[htl],⟨_,_,_,_,q2.more (by omega)⟩,q3⟩
set_option maxRecDepth 20000 in
set_option maxHeartbeats 4000000 in
theorem goOn_0 {No:Nat→Prop} {w:World} {B:Nat} {wv:Value} {T A b a S hb c:Nat} {d:SD} (h:So No w B wv T A b a S hb c d) (hc:c≤400000) (hf:Fit d.1) (less:Bool) (ea:d.1.ak=0):
 Calls Tryz.prog 28 #[.pointer (some ⟨B,0,none⟩),.bool less] w (GP No w B T S hb (c+31) (goR d less)):=by
 obtain ⟨N2,s0,HF0⟩:=h.tell2
 have HF:Hid _:=HF0
 obtain ⟨W0,hW0⟩:∃W0,w.alloc z8=W0:=⟨_,rfl⟩
 rw[hW0] at HF s0
 unfold z8 at hW0
 clear HF0
 have a4:W0.cell? ⟨B,4,none⟩=some (.int .i64 0):=by
  have e:W0.cell? ⟨B,4,none⟩=some (.int .i64 d.1.ak):=s0.so.cell (j:=4) rfl
  rw[ea] at e
  exact e
 have C:=s0.of0 (f:=63) (xs:=#[.pointer (some ⟨B,0,none⟩)]) (bself W0) (fun q=>nrow_any q (by omega) hf.row)
 obtain ⟨R,hR⟩:∃R,goR d less=R:=⟨_,rfl⟩
 have eR:nrow d=R:=by rw[←hR];unfold goR;rw[if_neg (by omega),if_neg (by omega),if_neg (by omega),if_neg (by omega),if_neg (by omega),if_neg (by omega)]
 rw[hR]
 rw[eR] at C
 unfold GP
 clear h s0 hR eR hf ea
 go_enter Tryz.func28,Tryz.ntmps28
 go_wp2_with fail
 refine (C).mono ?_
 rintro e w4 ⟨rfl,wv4,A4,b4,a4,s4⟩
 obtain ⟨r4,r5,s5,k5⟩:=HF.out w4 wv4 A4 b4 a4 _ _ R.2 s4
 have HZ:Hid (_∧_∧_):=⟨r5,s5,k5⟩
 obtain ⟨tl,htl⟩:∃tl,R.2=tl:=⟨_,rfl⟩
 rw[htl] at HZ⊢
 obtain ⟨W5,hW5⟩:∃W5,set8 w4 w.heap.size tl=W5:=⟨_,rfl⟩
 rw[hW5] at HZ
 unfold set8 at hW5
 unfold tolV
 obtain ⟨n0,n1,n2,n3,n4,n5,n6,n7⟩:=r4.eight
 simp only[nil] at n0 n1 n2 n3 n4 n5 n6 n7
 have nf:=fun j=>r4.free j
 clear r4 r5 s5 k5 s4 HF C
 go_wp2
 obtain ⟨q1,q2,q3⟩:=HZ.out
 obtain ⟨r0,r1,r2,r3,r4,r5,r6,r7⟩:=q1.eight
 exact bodyPost_ret (v:=tolV tl) (by simp[results,Tryz.results28,go_sem,r0,r1,r2,r3,r4,r5,r6,r7,tolV]) rfl ⟨by first | rfl | rw[htl],⟨_,_,_,_,q2.more (by omega)⟩,q3⟩
set_option maxRecDepth 20000 in
set_option maxHeartbeats 4000000 in
theorem goOn_6 {No:Nat→Prop} {w:World} {B:Nat} {wv:Value} {T A b a S hb c:Nat} {d:SD} (h:So No w B wv T A b a S hb c d) (less:Bool) (ea:d.1.ak=6):
 Calls Tryz.prog 28 #[.pointer (some ⟨B,0,none⟩),.bool less] w (GP No w B T S hb (c+31) (goR d less)):=by
 obtain ⟨N2,s0,HF0⟩:=h.tell2
 have HF:Hid _:=HF0
 obtain ⟨W0,hW0⟩:∃W0,w.alloc z8=W0:=⟨_,rfl⟩
 rw[hW0] at HF s0
 unfold z8 at hW0
 clear HF0
 have a4:W0.cell? ⟨B,4,none⟩=some (.int .i64 6):=by
  have e:W0.cell? ⟨B,4,none⟩=some (.int .i64 d.1.ak):=s0.so.cell (j:=4) rfl
  rw[ea] at e
  exact e
 have a17:W0.cell? ⟨B,17,none⟩=some (.int .i64 d.1.er):=s0.so.cell (j:=17) rfl
 have eR:goR d less=(d,endT d.1.er):=by unfold goR;rw[if_neg (by omega),if_neg (by omega),if_neg (by omega),if_neg (by omega),if_neg (by omega),if_pos ea]
 rw[eR]
 unfold GP
 obtain ⟨r4,r5,s5,k5⟩:=HF.out W0 wv A b a c d (endT d.1.er) s0
 have HZ:Hid (_∧_∧_):=⟨r5,s5,k5⟩
 obtain ⟨W5,hW5⟩:∃W5,set8 W0 w.heap.size (endT d.1.er)=W5:=⟨_,rfl⟩
 rw[hW5] at HZ
 unfold set8 endT nil at hW5
 obtain ⟨n0,n1,n2,n3,n4,n5,n6,n7⟩:=r4.eight
 simp only[nil] at n0 n1 n2 n3 n4 n5 n6 n7
 have nf:=fun j=>r4.free j
 clear r4 r5 s5 k5 HF h s0 eR ea
 go_enter Tryz.func28,Tryz.ntmps28
 go_wp2
 obtain ⟨q1,q2,q3⟩:=HZ.out
 obtain ⟨r0,r1,r2,r3,r4,r5,r6,r7⟩:=q1.eight
 exact bodyPost_ret (v:=tolV (endT d.1.er)) (by simp[results,Tryz.results28,go_sem,r0,r1,r2,r3,r4,r5,r6,r7,tolV]) rfl ⟨rfl,⟨_,_,_,_,q2.more (by omega)⟩,q3⟩
theorem goOn_any {No:Nat→Prop} {w:World} {B:Nat} {wv:Value} {T A b a S hb c:Nat} {d:SD} (h:So No w B wv T A b a S hb c d) (hc:c≤400000) (hf:Fit d.1) (less:Bool) (ha:0≤d.1.ak∧d.1.ak≤6):
 Calls Tryz.prog 28 #[.pointer (some ⟨B,0,none⟩),.bool less] w (GP No w B T S hb (c+31) (goR d less)):=by
 rcases (show d.1.ak=0∨d.1.ak=1∨d.1.ak=2∨d.1.ak=3∨d.1.ak=4∨d.1.ak=5∨d.1.ak=6 by omega) with e | e | e | e | e | e | e
 ·exact goOn_0 h hc hf less e
 ·exact goOn_1 h hc hf less e
 ·exact goOn_2 h hc hf less e
 ·exact goOn_3 h hc hf less e
 ·exact goOn_4 h hc hf less e
 ·exact goOn_5 h hc hf less e
 ·exact goOn_6 h less e
end Go.Proofs.YtkmopcanaalemabGreat


namespace Go.Proofs.YtkmopcanaalemabGreat
open Go.RowKit
theorem So.pair {No : Nat → Prop} {w : World} {B : Nat} {wv : Value} {T A b a S hb c : Nat} {d : SD} (h : So No w B wv T A b a S hb c d) :
    ∃ N2 : Nat → Prop,So N2 ((w.alloc (vb 0 0 ⟨#[]⟩)).alloc (vb 0 0 ⟨#[]⟩)) B wv T A b a S hb c d ∧ ∀ w4 wv' A' b' a' c' d' (o : Obj) (x y : V),Keep N2 ((w.alloc (vb 0 0 ⟨#[]⟩)).alloc (vb 0 0 ⟨#[]⟩)) w4 → So N2 w4 B wv' T A' b' a' S hb c' d' →
      (R3 (w4.alloc o) w.heap.size nil ∧ R3 (w4.alloc o) (w.heap.size + 1) nil ∧ w.heap.size + 1 < w4.heap.size) ∧ R3 (set3 (set3 (w4.alloc o) w.heap.size x) (w.heap.size + 1) y) w.heap.size x ∧ R3 (set3 (set3 (w4.alloc o) w.heap.size x) (w.heap.size + 1) y) (w.heap.size + 1) y ∧ So No (set3 (set3 (w4.alloc o) w.heap.size x) (w.heap.size + 1) y) B wv' T A' b' a' S hb c' d' ∧ Keep No w (set3 (set3 (w4.alloc o) w.heap.size x) (w.heap.size + 1) y):=by
  have B0:=b2 w (vb 0 0 ⟨#[]⟩) (vb 0 0 ⟨#[]⟩)
  have X1:=(R3.made w nil).below (b1 _ (vb 0 0 ⟨#[]⟩))
  have X2:=R3.made (w.alloc (vb 0 0 ⟨#[]⟩)) nil
  have eX : (w.alloc (vb 0 0 ⟨#[]⟩)).heap.size = w.heap.size + 1:=by simp
  rw [eX] at X2
  have z0 : ((w.alloc (vb 0 0 ⟨#[]⟩)).alloc (vb 0 0 ⟨#[]⟩)).heap.size = w.heap.size + 2:=by simp
  have hNo : ∀ g,No g → g < w.heap.size:=fun g q=>by
    obtain ⟨vb,hp⟩:=h.tt.hp
    exact hp.nos _ (.inl (.inl q))
  refine ⟨_,h.news B0,fun w4 wv' A' b' a' c' d' o x y k4 s4=>?_⟩
  have n0 : (fun g=>No g ∨ (w.heap.size ≤ g ∧ g < ((w.alloc (vb 0 0 ⟨#[]⟩)).alloc (vb 0 0 ⟨#[]⟩)).heap.size)) w.heap.size:=.inr ⟨Nat.le_refl _,by omega⟩
  have n1 : (fun g=>No g ∨ (w.heap.size ≤ g ∧ g < ((w.alloc (vb 0 0 ⟨#[]⟩)).alloc (vb 0 0 ⟨#[]⟩)).heap.size)) (w.heap.size + 1):=.inr ⟨by omega,by omega⟩
  have a1:=(R3.kept X1 k4 n0).below (b1 w4 o)
  have a2:=(R3.kept X2 k4 n1).below (b1 w4 o)
  have hl : w.heap.size + 1 < w4.heap.size:=by have:=k4.size;omega
  have y1:=a1.set x
  have k1 : Keep (fun g=>g ≠ w.heap.size) (w4.alloc o) (set3 (w4.alloc o) w.heap.size x):=(Keep.refl _ _).set3 (fun q=>q rfl) x
  have a2':=a2.kept k1 (by show w.heap.size + 1 ≠ w.heap.size;omega)
  have y2:=a2'.set y
  have k2 : Keep (fun g=>g ≠ w.heap.size + 1) (set3 (w4.alloc o) w.heap.size x) (set3 (set3 (w4.alloc o) w.heap.size x) (w.heap.size + 1) y):=(Keep.refl _ _).set3 (fun q=>q rfl) y
  have y1':=y1.kept k2 (by show w.heap.size ≠ w.heap.size + 1;omega)
  refine ⟨⟨a1,a2,hl⟩,y1',y2,?_,?_⟩
  · exact (s4.below (b1 w4 o)).out (fun g q=>.inl q) (((Keep.refl _ _).set3 (fun q=>q n0) x).set3 (fun q=>q n1) y)
  · exact ((((Keep.of B0).trans (k4.sub (fun g q=>.inl q))).trans (Keep.of (b1 w4 o))).set3 (fun q=>by have:=hNo _ q;omega) x).set3 (fun q=>by have:=hNo _ q;omega) y
def tol4 (tl : Tol) : Value:=.tuple #[.agg #[.int .i64 tl.1.1,.int .i64 tl.1.2.1,.string tl.1.2.2],.agg #[.int .i64 tl.2.1.1,.int .i64 tl.2.1.2.1,.string tl.2.1.2.2],.bool tl.2.2.1,.int .i64 tl.2.2.2]
set_option maxRecDepth 20000 in
set_option maxHeartbeats 4000000 in
theorem next_any {No : Nat → Prop} {w : World} {B : Nat} {wv : Value} {T A b a S hb c : Nat} {d : SD} (h : So No w B wv T A b a S hb c d) (hc : c ≤ 400000) (hf : Fit d.1) (less : Bool) (ha : 0 ≤ d.1.ak ∧ d.1.ak ≤ 6) :
    Calls Tryz.prog 12 #[.pointer (some ⟨B,0,none⟩),.bool less] w fun e w'=>e = .returned (tol4 (goR d less).2) ∧ (∃ wv' A' b' a',So No w' B wv' T A' b' a' S hb (c + 31) (goR d less).1) ∧ Keep No w w':=by
  obtain ⟨N2,s0,HF0⟩:=h.pair
  have HF : Hid _:=HF0
  have C:=goOn_any s0 hc hf less ha
  have a0 : ((w.alloc (vb 0 0 ⟨#[]⟩)).alloc (vb 0 0 ⟨#[]⟩)).cell? ⟨B,0,none⟩ = some (.pointer (some ⟨T,0,none⟩)):=s0.cell (j:=0) rfl
  obtain ⟨W0,hW0⟩ : ∃ W0,(w.alloc (vb 0 0 ⟨#[]⟩)).alloc (vb 0 0 ⟨#[]⟩) = W0:=⟨_,rfl⟩
  rw [hW0] at HF C a0
  unfold vb at hW0
  obtain ⟨R,hR⟩ : ∃ R,goR d less = R:=⟨_,rfl⟩
  rw [hR] at C ⊢
  obtain ⟨tl,htl⟩ : ∃ tl,R.2 = tl:=⟨_,rfl⟩
  unfold GP tolV at C
  unfold tol4
  rw [htl] at C ⊢
  clear HF0 h s0 hR htl hf ha
  go_enter Tryz.func12,Tryz.ntmps12
  go_wp2_with fail
  refine C.mono ?_
  rintro e w4 ⟨rfl,⟨wv4,A4,b4,a4,s4⟩,k4⟩
  obtain ⟨⟨r1,r2,hl⟩,y1,y2,s5,k5⟩:=HF.out w4 wv4 A4 b4 a4 _ _ (.cells #[.int .i64 tl.1.1,.int .i64 tl.1.2.1,.string tl.1.2.2,.int .i64 tl.2.1.1,.int .i64 tl.2.1.2.1,.string tl.2.1.2.2,.bool tl.2.2.1,.int .i64 tl.2.2.2] 78) tl.1 tl.2.1 k4 s4
  have HZ : Hid (_ ∧ _ ∧ _ ∧ _):=⟨y1,y2,s5,k5⟩
  obtain ⟨W4,hW4⟩ : ∃ W4,w4.alloc (.cells #[.int .i64 tl.1.1,.int .i64 tl.1.2.1,.string tl.1.2.2,.int .i64 tl.2.1.1,.int .i64 tl.2.1.2.1,.string tl.2.1.2.2,.bool tl.2.2.1,.int .i64 tl.2.2.2] 78) = W4:=⟨_,rfl⟩
  have bX:=(MapKept.heap_alloc w4 (.cells #[.int .i64 tl.1.1,.int .i64 tl.1.2.1,.string tl.1.2.2,.int .i64 tl.2.1.1,.int .i64 tl.2.1.2.1,.string tl.2.1.2.2,.bool tl.2.2.1,.int .i64 tl.2.2.2] 78)).1
  rw [hW4] at r1 r2 HZ bX
  have R4 : R8 W4 w4.heap.size tl:=⟨bX⟩
  obtain ⟨m0,m1,m2,m3,m4,m5,m6,m7⟩:=R4.eight
  have R5 : R8 (set3 (set3 W4 w.heap.size tl.1) (w.heap.size + 1) tl.2.1) w4.heap.size tl:=R4.kept (No:=fun g=>g ≠ w.heap.size ∧ g ≠ w.heap.size + 1) (((Keep.refl _ W4).set3 (fun q=>q.1 rfl) _).set3 (fun q=>q.2 rfl) _) ⟨by omega,by omega⟩
  obtain ⟨W5,hW5⟩ : ∃ W5,set3 (set3 W4 w.heap.size tl.1) (w.heap.size + 1) tl.2.1 = W5:=⟨_,rfl⟩
  rw [hW5] at HZ R5
  obtain ⟨l0,l1,l2,l3,l4,l5,l6,l7⟩:=R5.eight
  unfold set3 at hW5
  have n0:=r1.bx.c0
  have n1:=r1.bx.c1
  have n2:=r1.bx.c2
  have n3:=r2.bx.c0
  have n4:=r2.bx.c1
  have n5:=r2.bx.c2
  have f1:=r1.fz
  have f2:=r2.fz
  simp only [nil] at n0 n1 n2 n3 n4 n5
  have hd0 : ¬ w4.heap.size = w.heap.size:=by omega
  have hd1 : ¬ w4.heap.size = w.heap.size + 1:=by omega
  have hd2 : ¬ w.heap.size = w4.heap.size:=by omega
  have hd3 : ¬ w.heap.size + 1 = w4.heap.size:=by omega
  clear r1 r2 y1 y2 s5 k5 HF C s4 k4 bX R4 R5 a0 hl
  go_wp2_with fail
  go_region
  all_goals
    go_wp2
    obtain ⟨q1,q2,q3,q4⟩:=HZ.out
    have o0:=q1.bx.c0
    have o1:=q1.bx.c1
    have o2:=q1.bx.c2
    have o3:=q2.bx.c0
    have o4:=q2.bx.c1
    have o5:=q2.bx.c2
    refine bodyPost_ret (v:=.tuple #[.agg #[.int .i64 tl.1.1,.int .i64 tl.1.2.1,.string tl.1.2.2],.agg #[.int .i64 tl.2.1.1,.int .i64 tl.2.1.2.1,.string tl.2.1.2.2],.bool tl.2.2.1,.int .i64 tl.2.2.2]) (by simp [results,Tryz.results12,go_sem,o0,o1,o2,o3,o4,o5]) rfl ⟨rfl,⟨_,_,_,_,q3.below (bdrew1 _)⟩,q4.trans (Keep.of (bdrew1 _))⟩
theorem TT.begin {No : Nat → Prop} {w : World} {T A b a S hb c : Nat} {t : TS} {s : H.St} (h : TT No w T A b a S hb c t s) (n : Int) : So No (w.alloc (.cells (scl T (.slice none 0 0) (U.s0 n)) 73)) w.heap.size (.slice none 0 0) T A b a S hb c (U.s0 n,t,s) ∧ Keep No w (w.alloc (.cells (scl T (.slice none 0 0) (U.s0 n)) 73)):=by
  have B0:=b1 w (.cells (scl T (.slice none 0 0) (U.s0 n)) 73)
  have hNo : ∀ g,No g → g < w.heap.size:=fun g q=>by
    obtain ⟨vb,hp⟩:=h.hp
    exact hp.nos _ (.inl q)
  refine ⟨⟨(MapKept.heap_alloc w _).1,World.ownsRow_nil _ _ _ _,(h.news B0).sub (fun g q=>?_),fun q=>by have:=hNo _ q;omega,fun g q=>by cases q⟩,Keep.of B0⟩
  rcases q with q | q | q
  · exact .inl q
  · right
    rw [q]
    exact ⟨Nat.le_refl _,by simp⟩
  · cases q
theorem snew_any {No : Nat → Prop} {w : World} {T A b a S hb c : Nat} {t : TS} {s : H.St} (h : TT No w T A b a S hb c t s) (n : Int) :
    Calls Tryz.prog 10 #[.pointer (some ⟨T,0,none⟩),.int .i64 n] w fun e w'=>e = .returned (.pointer (some ⟨w.heap.size,0,none⟩)) ∧ So No w' w.heap.size (.slice none 0 0) T A b a S hb c (U.s0 n,t,s) ∧ Keep No w w':=by
  have HS : Hid (_ ∧ _):=h.begin n
  unfold scl U.s0 nil at HS
  clear h
  go_enter Tryz.func10,Tryz.ntmps10
  go_wp2
  go_ret
  exact ⟨rfl,HS.out⟩
end Go.Proofs.YtkmopcanaalemabGreat


namespace Go.Proofs.YtkmopcanaalemabGreat
open Go.RowKit
theorem tset_map {t : TS} {s : H.St} {k v : V} (h : TI t.p) (hr : Rng k) :
    ((tset t s k v).2.2 = 0 → KOK k ∧ fm v = true ∧ pget (tset t s k v).1.p k = v ∧ ∀ k',KOK k' → k' ≠ k → pget (tset t s k v).1.p k' = pget t.p k') ∧
    ((tset t s k v).2.2 ≠ 0 → ∀ k',pget (tset t s k v).1.p k' = pget t.p k'):=by
  unfold tset
  by_cases hf : fm k = true ∧ fm v = true
  · rw [if_neg (fun q=>q hf)]
    by_cases hk0 : k.1 = 0
    · rw [if_pos hk0]
      exact ⟨fun q=>absurd (show (9 : Int) = 0 from q) (by decide),fun _ _=>rfl⟩
    · rw [if_neg hk0]
      have hk : KOK k:=⟨hf.1,hk0,hr.1,hr.2⟩
      by_cases he : (pset t.p k v).2.2 = 12
      · rw [if_neg (fun q=>q he)]
        obtain ⟨hA,hv,hv0,hnew,hfull,hg,hp,ha⟩:=h.full hk he
        have hb : ∀ k',pget (pset t.p k v).1 k' = pget t.p k':=pset_bad (by rw [he];decide)
        have h1 : TI (pset t.p k v).1:=h.set hr hv
        have ep : (one t k v).p = (pset t.p k v).1:=rfl
        have hA1 : ¬ inA (pset t.p k v).1.n k:=by rw [(pset_nz t.p k v).1];exact hA
        have hnew1 : ∀ i,i < (pset t.p k v).1.z → (pset t.p k v).1.g.K i ≠ k:=fun i hi e=>by
          have hz:=(pset_nz t.p k v).2
          rw [hz] at hi
          have e1 : pset t.p k v = ({ t.p with g:=(put t.p.z t.p.g k v).1 },(put t.p.z t.p.g k v).2.1,(put t.p.z t.p.g k v).2.2):=by unfold pset;rw [if_neg hA]
          have he' : (put t.p.z t.p.g k v).2.2 = 12:=by rw [e1] at he;exact he
          have e2:=(put_12 h.inv h.rt hk he').2.2.2.2.1
          rw [e1] at e
          have e3 : (put t.p.z t.p.g k v).1.K i = k:=e
          rw [e2] at e3
          exact hnew i hi e3
        generalize one t k v = u at *
        by_cases hR : (reh u s k).2.2 = 0
        · rw [if_neg (fun q=>q hR)]
          have e0 : rsE u.p k = 0:=by
            unfold reh at hR
            by_cases q : rsE u.p k = 0
            · exact q
            · rw [if_pos q] at hR;exact absurd hR q
          have e1 : (reh u s k).1.p = fill u.p (fresh (rsA u.p k) (rsZ u.p k)):=by
            unfold reh at hR ⊢
            rw [if_neg (fun q=>q e0)] at hR ⊢
            by_cases q : tpE s (rsA u.p k) (rsZ u.p k) = 0
            · rw [if_neg (fun x=>x q)]
            · rw [if_pos q] at hR;exact absurd hR q
          rw [← ep] at ha h1 hA1 hnew1 hb
          obtain ⟨_,i1,i2,i3,i4,i5⟩:=h1.behind hk hv hv0 hA1 hnew1 ha e0
          rw [e1]
          obtain ⟨m1,m2⟩:=i1.map hk i5
          exact ⟨fun _=>⟨hk,hv,m1,fun k' hk' hne=>(m2 k' hk' hne).trans ((i4 k' hk').trans (hb k'))⟩,fun q=>absurd i5 q⟩
        · rw [if_pos hR]
          refine ⟨fun q=>absurd q hR,fun _ k'=>?_⟩
          have e1 : (reh u s k).1 = u:=by
            unfold reh at hR ⊢
            by_cases q : rsE u.p k = 0
            · rw [if_neg (fun x=>x q)] at hR ⊢
              by_cases q2 : tpE s (rsA u.p k) (rsZ u.p k) = 0
              · rw [if_neg (fun x=>x q2)] at hR;exact absurd rfl hR
              · rw [if_pos q2]
            · rw [if_pos q]
          rw [e1,ep]
          exact hb k'
      · rw [if_pos he]
        refine ⟨fun q=>?_,fun q k'=>pset_bad q k'⟩
        obtain ⟨m1,m2⟩:=h.map hk q
        exact ⟨hk,hf.2,m1,m2⟩
  · rw [if_pos hf]
    exact ⟨fun q=>absurd (show (2 : Int) = 0 from q) (by decide),fun _ _=>rfl⟩
end Go.Proofs.YtkmopcanaalemabGreat


namespace Go.Proofs.YtkmopcanaalemabGreat
open Go.RowKit
def Blk (s:H.St) (id n:Int):Prop:=(n=0∧id=0)∨(1≤n∧∃k:Nat,id=(k:Int)+1∧s.bl[k]?=some (n,true))
theorem setT_at {l:List (Int×Bool)} {k:Nat} {n:Int} {b:Bool} (h:l[k]?=some (n,b)) (t:Bool) (j:Nat):(H.setT l k t)[j]?=if j=k then some (n,t) else l[j]?:=by
 have hk:k<l.length:=(List.getElem?_eq_some_iff.1 h).1
 have e:l.getD k (0,false)=(n,b):=by rw[List.getD,h];rfl
 unfold H.setT
 rw[e,List.getElem?_set]
 by_cases q:k=j
 ·rw[if_pos q,if_pos hk,if_pos q.symm]
 ·rw[if_neg q,if_neg (fun e=>q e.symm)]
theorem blk_take {sp:Int} {s:H.St} {n:Int} (h:H.Inv sp s) (he:H.takeE s n=0):
 Blk (H.takeSt s n) (H.takeId s n) n∧(H.takeSt s n).live=s.live+n∧(H.takeSt s n).lim=s.lim∧∀id m,Blk s id m→Blk (H.takeSt s n) id m∧(id=H.takeId s n→id=0):=by
 have h0:¬n<0:=fun q=>by unfold H.takeE at he;rw[if_pos q] at he;cases he
 have h1:¬s.lim - s.live<n:=fun q=>by unfold H.takeE at he;rw[if_neg h0,if_pos q] at he;cases he
 by_cases hz:n=0
 ·have e1:H.takeSt s n=s:=by unfold H.takeSt;rw[if_neg h0,if_neg h1,if_pos hz]
  have e2:H.takeId s n=0:=by unfold H.takeId;rw[if_neg h0,if_neg h1,if_pos hz]
  rw[e1,e2]
  exact ⟨.inl ⟨hz,rfl⟩,by omega,rfl,fun id m q=>⟨q,fun e=>e⟩⟩
 ·rcases List.eq_nil_or_concat (s.R n) with hR | ⟨zs,x,hR⟩
  ·obtain ⟨e1,e2,_⟩:=H.take_new (s:=s) (n:=n) (by omega) (by omega) hR
   rw[e1,e2]
   refine ⟨.inr ⟨by omega,s.bl.length,rfl,by simp⟩,rfl,rfl,fun id m q=>?_⟩
   rcases q with ⟨q1,q2⟩ | ⟨q1,k,q2,q3⟩
   ·exact ⟨.inl ⟨q1,q2⟩,fun e=>by omega⟩
   ·have hk:k<s.bl.length:=(List.getElem?_eq_some_iff.1 q3).1
    exact ⟨.inr ⟨q1,k,q2,by show (s.bl++[(n,true)])[k]?=_;rw[List.getElem?_append_left hk];exact q3⟩,fun e=>by omega⟩
  ·rw[List.concat_eq_append] at hR
   obtain ⟨k,rfl,hk,hb⟩:=h.ids n x (by rw[hR];simp)
   obtain ⟨e1,e2,_⟩:=H.take_old (s:=s) (n:=n) (by omega) (by omega) hR
   have hb':s.bl[k]?=some (n,false):=by rw[List.getElem?_eq_getElem hk,hb]
   rw[e1,e2]
   refine ⟨.inr ⟨by omega,k,rfl,by show (H.setT s.bl k true)[k]?=_;rw[setT_at hb',if_pos rfl]⟩,rfl,rfl,fun id m q=>?_⟩
   rcases q with ⟨q1,q2⟩ | ⟨q1,k',q2,q3⟩
   ·exact ⟨.inl ⟨q1,q2⟩,fun e=>by omega⟩
   ·have hne:k'≠k:=fun e=>by rw[e,hb'] at q3;cases q3
    exact ⟨.inr ⟨q1,k',q2,by show (H.setT s.bl k true)[k']?=_;rw[setT_at hb',if_neg hne];exact q3⟩,fun e=>by omega⟩
theorem blk_give {s:H.St} {id n:Int} (h:Blk s id n):(H.giveSt s id).live=s.live - n∧(H.giveSt s id).lim=s.lim∧∀id' m,Blk s id' m→(id'=id→id'=0)→Blk (H.giveSt s id) id' m:=by
 rcases h with ⟨rfl,rfl⟩ | ⟨h1,k,rfl,hb⟩
 ·rw[(H.give_zero s).2]
  exact ⟨by omega,rfl,fun _ _ q _=>q⟩
 ·have hk:k<s.bl.length:=(List.getElem?_eq_some_iff.1 hb).1
  have hb2:s.bl[k]'hk=(n,true):=(List.getElem?_eq_some_iff.1 hb).2
  rw[(H.give_at hk (by rw[hb2])).2]
  refine ⟨by show s.live - (s.bl[k]'hk).1=_;rw[hb2],rfl,fun id' m q hne=>?_⟩
  rcases q with q | ⟨q1,k',q2,q3⟩
  ·exact .inl q
  ·have hne':k'≠k:=fun e=>by have:=hne (by omega);omega
   exact .inr ⟨q1,k',q2,by show (H.setT s.bl k false)[k']?=_;rw[setT_at hb,if_neg hne'];exact q3⟩
theorem flA_nz (old:Pa) (s:Nat) (p:Pa) (m:Nat):(flA old s p m).n=p.n∧(flA old s p m).z=p.z:=by
 induction m with
 | zero=>exact ⟨rfl,rfl⟩
 | succ m ih=>rw[flA,(stp_nz _ _ _).1,(stp_nz _ _ _).2];exact ih
theorem flH_nz (old p:Pa) (m:Nat):(flH old p m).n=p.n∧(flH old p m).z=p.z:=by
 induction m with
 | zero=>exact ⟨rfl,rfl⟩
 | succ m ih=>rw[flH,(stp_nz _ _ _).1,(stp_nz _ _ _).2];exact ih
theorem fill_nz (old p:Pa):(fill old p).n=p.n∧(fill old p).z=p.z:=by
 unfold fill
 rw[(flH_nz _ _ _).1,(flH_nz _ _ _).2,(flA_nz _ _ _ _).1,(flA_nz _ _ _ _).2]
 exact ⟨rfl,rfl⟩
structure TB (t:TS) (s:H.St) (L:Int):Prop where
 b1:Blk s t.sb (t.p.n:Nat)
 b2:Blk s t.nb (3 * (t.p.z:Nat))
 ne:t.sb=t.nb→t.sb=0
 live:s.live=L+(t.p.n:Nat)+3 * (t.p.z:Nat)
theorem tp_cases (s:H.St) (A Z:Int):(H.takeE s A≠0∧tpE s A Z=H.takeE s A∧tpS s A Z=s)∨
 (H.takeE s A=0∧H.takeE (H.takeSt s A) (3 * Z)≠0∧tpE s A Z=H.takeE (H.takeSt s A) (3 * Z)∧tpS s A Z=H.giveSt (H.takeSt s A) (H.takeId s A))∨
 (H.takeE s A=0∧H.takeE (H.takeSt s A) (3 * Z)=0∧tpE s A Z=0∧tpS s A Z=H.takeSt (H.takeSt s A) (3 * Z)):=by
 unfold tpE tpS
 by_cases h:H.takeE s A=0
 ·right
  rw[if_neg (fun q=>q h),if_neg (fun q=>q h)]
  by_cases h2:H.takeE (H.takeSt s A) (3 * Z)=0
  ·right;rw[if_neg (fun q=>q h2)];exact ⟨h,h2,h2,rfl⟩
  ·left;rw[if_pos h2];exact ⟨h,h2,rfl,rfl⟩
 ·left;rw[if_pos h,if_pos h];exact ⟨h,rfl,rfl⟩
theorem TB.reh {t:TS} {s:H.St} {L:Int} (h:TB t s L) (iv:H.Inv 0 s) (k:V):TB (Proofs.YtkmopcanaalemabGreat.reh t s k).1 (Proofs.YtkmopcanaalemabGreat.reh t s k).2.1 L∧(Proofs.YtkmopcanaalemabGreat.reh t s k).2.1.lim=s.lim:=by
 unfold Proofs.YtkmopcanaalemabGreat.reh
 by_cases he:rsE t.p k=0
 ·rw[if_neg (fun q=>q he)]
  generalize rsA t.p k=A
  generalize rsZ t.p k=Z
  rcases tp_cases s (A:Nat) (Z:Nat) with ⟨q1,q2,q3⟩ | ⟨q1,q2,q3,q4⟩ | ⟨q1,q2,q3,q4⟩
  ·rw[if_pos (by rw[q2];exact q1),q3]
   exact ⟨h,rfl⟩
  ·rw[if_pos (by rw[q3];exact q2),q4]
   obtain ⟨a1,a2,a3,a4⟩:=blk_take iv q1
   obtain ⟨g1,g2,g3⟩:=blk_give a1
   have k1:=a4 _ _ h.b1
   have k2:=a4 _ _ h.b2
   exact ⟨⟨g3 _ _ k1.1 k1.2,g3 _ _ k2.1 k2.2,h.ne,by show (H.giveSt (H.takeSt s (A:Nat)) (H.takeId s (A:Nat))).live=L+(t.p.n:Nat)+3 * (t.p.z:Nat);rw[g1,a2,h.live];omega⟩,by show (H.giveSt (H.takeSt s (A:Nat)) (H.takeId s (A:Nat))).lim=s.lim;rw[g2,a3]⟩
  ·rw[if_neg (fun q=>q q3),q4]
   obtain ⟨a1,a2,a3,a4⟩:=blk_take iv q1
   obtain ⟨c1,c2,c3,c4⟩:=blk_take (iv.take _) q2
   have k1:=a4 _ _ h.b1
   have k2:=a4 _ _ h.b2
   have m1:=c4 _ _ k1.1
   have m2:=c4 _ _ k2.1
   have m3:=c4 _ _ a1
   obtain ⟨g1,g2,g3⟩:=blk_give m1.1
   have n2:=g3 _ _ m2.1 (fun e=>by have:=h.ne e.symm;omega)
   have n3:=g3 _ _ m3.1 (fun e=>by have:=k1.2 e.symm;omega)
   have n4:=g3 _ _ c1 (fun e=>by have:=m1.2 e.symm;omega)
   obtain ⟨f1,f2,f3⟩:=blk_give n2
   have p3:=f3 _ _ n3 (fun e=>by have:=k2.2 e.symm;omega)
   have p4:=f3 _ _ n4 (fun e=>by have:=m2.2 e.symm;omega)
   obtain ⟨z1,z2⟩:=fill_nz t.p (fresh A Z)
   have z1':(fill t.p (fresh A Z)).n=A:=z1
   have z2':(fill t.p (fresh A Z)).z=Z:=z2
   refine ⟨⟨?_,?_,fun e=>m3.2 e,?_⟩,by rw[f2,g2,c3,a3]⟩
   ·show Blk _ _ ((fill t.p (fresh A Z)).n:Nat);rw[z1'];exact p3
   ·show Blk _ _ (3 * ((fill t.p (fresh A Z)).z:Nat));rw[z2'];exact p4
   ·show _=L+((fill t.p (fresh A Z)).n:Nat)+3 * ((fill t.p (fresh A Z)).z:Nat)
    rw[z1',z2',f1,g1,c2,a2,h.live];omega
 ·rw[if_pos he];exact ⟨h,rfl⟩
theorem TB.one {t:TS} {s:H.St} {L:Int} (h:TB t s L) (k v:V) (x:Int):TB {t with p:=(pset t.p k v).1,pr:=x} s L:=by
 obtain ⟨z1,z2⟩:=pset_nz t.p k v
 exact ⟨by show Blk s t.sb ((pset t.p k v).1.n:Nat);rw[z1];exact h.b1,by show Blk s t.nb (3 * ((pset t.p k v).1.z:Nat));rw[z2];exact h.b2,h.ne,by show _=L+((pset t.p k v).1.n:Nat)+3 * ((pset t.p k v).1.z:Nat);rw[z1,z2];exact h.live⟩
theorem TB.set {t:TS} {s:H.St} {L:Int} (h:TB t s L) (iv:H.Inv 0 s) (k v:V):TB (tset t s k v).1 (tset t s k v).2.1 L∧(tset t s k v).2.1.lim=s.lim:=by
 unfold tset
 split
 ·exact ⟨h,rfl⟩
 ·split
  ·exact ⟨h,rfl⟩
  ·split
   ·exact ⟨h.one k v _,rfl⟩
   ·obtain ⟨r1,r2⟩:=(show TB (Proofs.YtkmopcanaalemabGreat.one t k v) s L from h.one k v _).reh iv k
    split
    ·exact ⟨r1,r2⟩
    ·exact ⟨r1.one k v _,r2⟩
end Go.Proofs.YtkmopcanaalemabGreat


namespace Go.Proofs.YtkmopcanaalemabGreat
open Go.RowKit
theorem fm_kn (n : Int) : fm (kn n) = true:=by simp [fm,inF,ByteArray.toList_eq]
end Go.Proofs.YtkmopcanaalemabGreat


namespace Go.Proofs.YtkmopcanaalemabGreat
open Go.RowKit
theorem Fits.perm {l l':List V} {A Z:Nat} (h:Fits l A Z) (hp:l.Perm l'):Fits l' A Z:=by
 have ho:outK A l'=outK A l:=(hp.countP_eq _).symm
 have hi:(ints l).Perm (ints l'):=hp.filterMap _
 have hw:∀a,C.wi (ints l') a=C.wi (ints l) a:=fun a=>by unfold C.wi;rw[hi.countP_eq]
 have hd:=h.dense
 refine ⟨h.a,h.z,by rw[ho];exact h.room,⟨hd.a0,hd.a1,rfl,?_,fun j hj q=>?_⟩,by rw[ho];exact h.up,h.pow⟩
 ·rw[hw];exact hd.half
 ·rw[hw];exact hd.most j hj q
def Due (p:Pa) (k v:V):Prop:=plc p k≤0∧(∀i,i<p.z→p.g.K i≠nil)∧v.1≠0∧fm k=true∧fm v=true∧k.1≠0
theorem tf_full {K:Nat→V}:∀f,(∀i,i<f→K i≠nil)→tf K f=none:=by
 intro f
 induction f with
 | zero=>intro _;rfl
 | succ f ih=>intro h;rw[tf,if_neg (h f (by omega))];exact ih (fun i hi=>h i (by omega))
theorem due_iff {p:Pa} (h:TI p) {k v:V} (hr:Rng k):Due p k v↔(fm k=true∧fm v=true∧k.1≠0∧(pset p k v).2.2=12):=by
 constructor
 ·rintro ⟨d1,d2,d3,d4,d5,d6⟩
  have hk:KOK k:=⟨d4,d6,hr.1,hr.2⟩
  refine ⟨d4,d5,d6,?_⟩
  have hA:¬inA p.n k:=fun q=>by unfold plc at d1;rw[if_pos q] at d1;have:=q.2.2.1;omega
  have hno:(fnd p.z p.g k).1=none:=by
   unfold plc at d1
   rw[if_neg hA] at d1
   cases hf:(fnd p.z p.g k).1 with
   | none=>rfl
   | some i=>rw[hf] at d1;simp only at d1;omega
  unfold pset
  rw[if_neg hA]
  show (put p.z p.g k v).2.2=12
  by_cases hz0:p.z=0
  ·rw[put,if_pos ⟨d4,d5⟩,if_neg d6,if_pos hz0,if_neg d3]
  ·rw[put,if_pos ⟨d4,d5⟩,if_neg d6,if_neg hz0]
   have hz':=h.rt.resolve_left hz0
   rw[fnd_good hz0 hk] at hno
   cases hf:find (pl p.z) p.g k with
   | mk o n=>
     rw[hf] at hno
     simp only at hno
     subst hno
     simp only
     rw[if_neg d3]
     have hpl:=pl_lt hz' k
     have e:(ins (pl p.z) p.g k v).2=false:=by
      unfold ins
      rw[if_neg (d2 _ hpl),tf_full p.g.f (fun i hi=>d2 i (by have:=h.inv.fle;omega))]
     rw[e];rfl
 ·rintro ⟨d4,d5,d6,he⟩
  have hk:KOK k:=⟨d4,d6,hr.1,hr.2⟩
  obtain ⟨hA,_,hv0,hnew,hfull,_⟩:=h.full hk he
  refine ⟨?_,hfull,hv0,d4,d5,d6⟩
  unfold plc
  rw[if_neg hA]
  cases hf:fnd p.z p.g k with
  | mk o n=>
    cases o with
    | none=>exact Int.le_refl _
    | some i=>
      exfalso
      have hz0:p.z≠0:=fun q=>by
       have:=(fnd_lt h.inv h.rt hr hf).1;omega
      rw[fnd_good hz0 hk] at hf
      obtain ⟨_,h2,h3⟩:=h.inv.find_some (fun k _=>pl_lt (h.rt.resolve_left hz0) k) hk hf
      exact hnew i (fnd_lt h.inv h.rt hr (by rw[fnd_good hz0 hk];exact hf)).1 (by assumption)
theorem reh_err {u:TS} {s:H.St} {k:V} (h:(reh u s k).2.2≠0):(reh u s k).1=u:=by
 unfold reh at h⊢
 by_cases q:rsE u.p k=0
 ·rw[if_neg (fun x=>x q)] at h⊢
  by_cases q2:tpE s (rsA u.p k) (rsZ u.p k)=0
  ·rw[if_neg (fun x=>x q2)] at h;exact absurd rfl h
  ·rw[if_pos q2]
 ·rw[if_pos q]
theorem set_same {t:TS} {s:H.St} {k v:V} (h:TI t.p) (hr:Rng k) (hno:¬(Due t.p k v∧(tset t s k v).2.2=0)):(tset t s k v).1.p.n=t.p.n∧(tset t s k v).1.p.z=t.p.z:=by
 unfold tset at hno⊢
 by_cases hf:fm k=true∧fm v=true
 ·rw[if_neg (fun q=>q hf)] at hno⊢
  by_cases hk0:k.1=0
  ·rw[if_pos hk0];exact ⟨rfl,rfl⟩
  ·rw[if_neg hk0] at hno⊢
   by_cases he:(pset t.p k v).2.2=12
   ·rw[if_neg (fun q=>q he)] at hno⊢
    have hd:=(due_iff h hr).2 ⟨hf.1,hf.2,hk0,he⟩
    by_cases hR:(reh (one t k v) s k).2.2=0
    ·rw[if_neg (fun q=>q hR)] at hno⊢
     exfalso
     refine hno ⟨hd,?_⟩
     have hk:KOK k:=⟨hf.1,hk0,hr.1,hr.2⟩
     have hs:=tset_map (s:=s) (k:=k) (v:=v) h hr
     have e:(tset t s k v).2.2=(pset (reh (one t k v) s k).1.p k v).2.2:=by
      unfold tset
      rw[if_neg (fun q=>q hf),if_neg hk0,if_neg (fun q=>q he),if_neg (fun q=>q hR)]
     show (pset (reh (one t k v) s k).1.p k v).2.2=0
     obtain ⟨hA,hv,hv0,hnew,_,_,_,ha⟩:=h.full hk he
     have h1:TI (one t k v).p:=h.set hr hv
     have hA1:¬inA (one t k v).p.n k:=by show ¬inA (pset t.p k v).1.n k;rw[(pset_nz t.p k v).1];exact hA
     have ep:pset t.p k v=({t.p with g:=(put t.p.z t.p.g k v).1},(put t.p.z t.p.g k v).2.1,(put t.p.z t.p.g k v).2.2):=by unfold pset;rw[if_neg hA]
     have hnew1:∀i,i<(one t k v).p.z→(one t k v).p.g.K i≠k:=fun i hi e=>by
      have hi2:i<t.p.z:=by rw[←(pset_nz t.p k v).2];exact hi
      have he':(put t.p.z t.p.g k v).2.2=12:=by rw[ep] at he;exact he
      have e2:=(put_12 h.inv h.rt hk he').2.2.2.2.1
      have e3:(pset t.p k v).1.g.K i=k:=e
      rw[ep] at e3
      have e4:(put t.p.z t.p.g k v).1.K i=k:=e3
      rw[e2] at e4
      exact hnew i hi2 e4
     have e0:rsE (one t k v).p k=0:=by
      unfold reh at hR
      by_cases q:rsE (one t k v).p k=0
      ·exact q
      ·rw[if_pos q] at hR;exact absurd hR q
     have e1:(reh (one t k v) s k).1.p=fill (one t k v).p (fresh (rsA (one t k v).p k) (rsZ (one t k v).p k)):=by
      unfold reh at hR⊢
      rw[if_neg (fun q=>q e0)] at hR⊢
      by_cases q:tpE s (rsA (one t k v).p k) (rsZ (one t k v).p k)=0
      ·rw[if_neg (fun x=>x q)]
      ·rw[if_pos q] at hR;exact absurd hR q
     rw[e1]
     exact (h1.behind hk hv hv0 hA1 hnew1 ha e0).2.2.2.2.2
    ·rw[if_pos hR,reh_err hR]
     exact pset_nz t.p k v
   ·rw[if_pos he];exact pset_nz t.p k v
 ·rw[if_pos hf];exact ⟨rfl,rfl⟩
theorem set_due {t:TS} {s:H.St} {k v:V} (h:TI t.p) (hr:Rng k) (hd:Due t.p k v) (hz:(tset t s k v).2.2=0) (ti':TI (tset t s k v).1.p):
 Fits (pres (tset t s k v).1.p) (tset t s k v).1.p.n (tset t s k v).1.p.z∧(tset t s k v).1.hint=0:=by
 obtain ⟨d4,d5,d6,he⟩:=(due_iff h hr).1 hd
 have hk:KOK k:=⟨d4,d6,hr.1,hr.2⟩
 obtain ⟨mk1,_,mk2,mk3⟩:=(tset_map (s:=s) (k:=k) (v:=v) h hr).1 hz
 obtain ⟨hA,hv,hv0,hnew,_,_,hpp,ha⟩:=h.full hk he
 have h1:TI (one t k v).p:=h.set hr hv
 have hb:∀k',pget (pset t.p k v).1 k'=pget t.p k':=pset_bad (by rw[he];decide)
 have et:tset t s k v=if (reh (one t k v) s k).2.2≠0 then reh (one t k v) s k
  else ({(reh (one t k v) s k).1 with p:=(pset (reh (one t k v) s k).1.p k v).1},(reh (one t k v) s k).2.1,(pset (reh (one t k v) s k).1.p k v).2.2):=by
  unfold tset
  rw[if_neg (fun q=>q ⟨d4,d5⟩),if_neg d6,if_neg (fun q=>q he)]
 have hR:(reh (one t k v) s k).2.2=0:=by
  by_cases q:(reh (one t k v) s k).2.2=0
  ·exact q
  ·rw[et,if_pos q] at hz;exact absurd hz q
 rw[if_neg (fun q=>q hR)] at et
 have e0:rsE (one t k v).p k=0:=by
  unfold reh at hR
  by_cases q:rsE (one t k v).p k=0
  ·exact q
  ·rw[if_pos q] at hR;exact absurd hR q
 have e1:(reh (one t k v) s k).1.p=fill (one t k v).p (fresh (rsA (one t k v).p k) (rsZ (one t k v).p k))∧(reh (one t k v) s k).1.hint=0:=by
  unfold reh at hR⊢
  rw[if_neg (fun q=>q e0)] at hR⊢
  by_cases q:tpE s (rsA (one t k v).p k) (rsZ (one t k v).p k)=0
  ·rw[if_neg (fun x=>x q)];exact ⟨rfl,rfl⟩
  ·rw[if_pos q] at hR;exact absurd hR q
 obtain ⟨_,F,_,_⟩:=(cens (p:=(one t k v).p) ha.ok ha.nd).resolve_left (fun q=>by rw[e0] at q;cases q)
 have hnz:(tset t s k v).1.p.n=rsA (one t k v).p k∧(tset t s k v).1.p.z=rsZ (one t k v).p k:=by
  rw[et]
  show (pset (reh (one t k v) s k).1.p k v).1.n=_∧(pset (reh (one t k v) s k).1.p k v).1.z=_
  rw[(pset_nz _ k v).1,(pset_nz _ k v).2,e1.1,(fill_nz _ _).1,(fill_nz _ _).2]
  exact ⟨rfl,rfl⟩
 refine ⟨?_,by rw[et];exact e1.2⟩
 rw[hnz.1,hnz.2]
 refine F.perm ?_
 refine (List.perm_ext_iff_of_nodup ha.nd ti'.pres_nd).2 fun k'=>?_
 rw[ti'.mem_pres,List.mem_append,List.mem_singleton]
 have hm1:∀k',k'∈pres (one t k v).p↔KOK k'∧(pget t.p k').1≠0:=fun k'=>by rw[h1.mem_pres];show _∧(pget (pset t.p k v).1 k').1≠0↔_;rw[hb]
 have hm2:=hm1 k'
 constructor
 ·rintro (q | rfl)
  ·obtain ⟨q1,q2⟩:=hm2.1 q
   refine ⟨q1,?_⟩
   by_cases e:k'=k
   ·subst e;rw[mk2];exact hv0
   ·rw[mk3 k' q1 e];exact q2
  ·exact ⟨hk,by rw[mk2];exact hv0⟩
 ·rintro ⟨q1,q2⟩
  by_cases e:k'=k
  ·exact .inr e
  ·left
   rw[mk3 k' q1 e] at q2
   exact hm2.2 ⟨q1,q2⟩
end Go.Proofs.YtkmopcanaalemabGreat

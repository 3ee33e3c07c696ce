import Derived.Test.YtkmopcanaalemabGreatCg08
import Derived.Test.YtkmopcanaalemabGreatCg03
import Derived.Test.YtkmopcanaalemabGreatCg06
namespace Go.Proofs.YtkmopcanaalemabGreat
open Go.RowKit
def PuP (No : Nat → Prop) (w : World) (B : Nat) (wv : Value) (T S hb c : Nat) (d : SD) (a1 : Int) (v : V) (b1 : Int) (u : V) (e : Ending) (w' : World) : Prop :=
  e = .returned (.int .i64 (putE d a1 v b1 u)) ∧ (∃ A' b' a',So No w' B wv T A' b' a' S hb (c + 14) (putD d a1 v b1 u)) ∧ Keep (Nq No B wv) w w'
set_option maxRecDepth 20000 in
set_option maxHeartbeats 4000000 in
theorem put_any {No : Nat → Prop} {w : World} {B : Nat} {wv : Value} {T A b a S hb c : Nat} {d : SD} (h : So No w B wv T A b a S hb c d) (hc : c ≤ 600000) (i1 i2 : Int) (v u : V) (h1 : -9223372036854775808 ≤ i1) (h2 : i1 ≤ 9223372036854775807) (h3 : -9223372036854775808 ≤ i2) (h4 : i2 ≤ 9223372036854775807) :
    Calls Tryz.prog 97 #[.pointer (some ⟨B,0,none⟩),.int .i64 i1,vv v,.int .i64 i2,vv u] w (PuP No w B wv T S hb c d i1 v i2 u):=by
  have B0:=b2 w (vb v.1 v.2.1 v.2.2) (vb u.1 u.2.1 u.2.2)
  have X1:=(Bx.made w v).below (b1 _ (vb u.1 u.2.1 u.2.2))
  have X2:=Bx.made (w.alloc (vb v.1 v.2.1 v.2.2)) u
  have eX : (w.alloc (vb v.1 v.2.1 v.2.2)).heap.size = w.heap.size + 1:=by simp
  rw [eX] at X2
  have z0 : ((w.alloc (vb v.1 v.2.1 v.2.2)).alloc (vb u.1 u.2.1 u.2.2)).heap.size = w.heap.size + 2:=by simp
  obtain ⟨W0,hW0⟩ : ∃ W0,(w.alloc (vb v.1 v.2.1 v.2.2)).alloc (vb u.1 u.2.1 u.2.2) = W0:=⟨_,rfl⟩
  rw [hW0] at B0 X1 X2 z0
  have hs0:=h.below B0
  have tn:=h.tt.news B0
  have c0 : W0.cell? ⟨B,0,none⟩ = some (.pointer (some ⟨T,0,none⟩)):=hs0.cell (j:=0) rfl
  obtain ⟨N2,hN2⟩ : ∃ N2,(fun g=>Nq No B wv g ∨ (w.heap.size ≤ g ∧ g < W0.heap.size)) = N2:=⟨_,rfl⟩
  have HN : Hid ((∀ g,Nq No B wv g → N2 g) ∧ N2 w.heap.size ∧ N2 (w.heap.size + 1) ∧ N2 B):=by
    subst hN2
    exact ⟨fun g q=>.inl q,.inr ⟨Nat.le_refl _,by omega⟩,.inr ⟨by omega,by omega⟩,.inl (.inr (.inl rfl))⟩
  rw [hN2] at tn
  clear hN2
  have C1:=tset_any (tn.below (bdrew1 W0)) (by omega) (kn i1) v (rng_kn h1 h2)
  have HX1 : Hid (Bx W0 w.heap.size v):=X1
  have HX2 : Hid (Bx W0 (w.heap.size + 1) u):=X2
  have HS : Hid (So No W0 B wv T A b a S hb c d):=hs0
  have HK : Hid (Keep (Nq No B wv) w W0):=Keep.of B0
  have x0:=X1.c0
  have x1:=X1.c1
  have x2:=X1.c2
  obtain ⟨R1,hR1⟩ : ∃ R1,tset d.2.1 d.2.2 (kn i1) v = R1:=⟨_,rfl⟩
  rw [hR1] at C1
  have hE : stE d i1 v = R1.2.2:=by unfold stE;rw [hR1]
  have hD : stD d i1 v = (d.1,R1.1,R1.2.1):=by unfold stD;rw [hR1]
  unfold PuP putE putD
  rw [hE,hD]
  unfold vv vl kn at C1
  unfold vv vl
  unfold vb at hW0
  clear hs0 tn X1 X2 h B0 hE hD hR1
  by_cases hE0 : R1.2.2 = 0
  · rw [if_neg (by rw [hE0];simp),if_neg (by rw [hE0];simp)]
    obtain ⟨R2,hR2⟩ : ∃ R2,tset R1.1 R1.2.1 (kn i2) u = R2:=⟨_,rfl⟩
    have hE2 : stE (d.1,R1.1,R1.2.1) i2 u = R2.2.2:=by unfold stE;rw [hR2]
    have hD2 : stD (d.1,R1.1,R1.2.1) i2 u = (d.1,R2.1,R2.2.1):=by unfold stD;rw [hR2]
    rw [hE2,hD2]
    have HR2 : Hid (tset R1.1 R1.2.1 (kn i2) u = R2):=hR2
    clear hR2 hE2 hD2
    go_enter Tryz.func97,Tryz.ntmps97
    go_wp2_with fail
    refine wp_tail 7 (by kernel_rfl) (by kernel_rfl) ?_
    simp only [List.take_succ_cons,List.take_zero,List.drop_succ_cons,List.drop_zero]
    repeat still_step
    refine wpStill_nil ?_
    go_wp2_with fail
    refine C1.mono ?_
    rintro e w1 ⟨rfl,⟨A1,b1',a1',t1⟩,k1⟩
    have K1 : Keep N2 W0 w1:=((Keep.refl N2 W0).drew).trans k1
    have Y2:=HX2.out.kept K1 HN.out.2.2.1
    have HS1 : Hid (So No w1 B wv T A1 b1' a1' S hb (c + 7) (d.1,R1.1,R1.2.1)):=HS.out.via (K1.sub HN.out.1) (t1.sub HN.out.1)
    have HK1 : Hid (Keep (Nq No B wv) w w1):=HK.out.trans (K1.sub HN.out.1)
    have c1 : w1.cell? ⟨B,0,none⟩ = some (.pointer (some ⟨T,0,none⟩)):=HS1.out.cell (j:=0) rfl
    have y0:=Y2.c0
    have y1:=Y2.c1
    have y2:=Y2.c2
    have C2:=tset_any (t1.below (bdrew1 w1)) (by omega) (kn i2) u (rng_kn h3 h4)
    rw [HR2.out] at C2
    have HDD : Hid (∀ w2 A2 b2' a2',Keep N2 w1.drew w2 → TT N2 w2 T A2 b2' a2' S hb (c + 7 + 7) R2.1 R2.2.1 → So No w2 B wv T A2 b2' a2' S hb (c + 14) (d.1,R2.1,R2.2.1) ∧ Keep (Nq No B wv) w w2):=fun w2 A2 b2' a2' k2 t2=>by
      have K2 : Keep N2 w1 w2:=((Keep.refl N2 w1).drew).trans k2
      exact ⟨HS1.out.via (K2.sub HN.out.1) (t2.sub HN.out.1),HK1.out.trans (K2.sub HN.out.1)⟩
    rw [hE0]
    unfold vv vl kn at C2
    clear C1 t1 k1 K1 Y2 HS1 HK1 HX1 HX2 HS HK x0 x1 x2 c0 hE0 HR2
    go_wp2_with fail
    refine wp_tail 7 (by kernel_rfl) (by kernel_rfl) ?_
    simp only [List.take_succ_cons,List.take_zero,List.drop_succ_cons,List.drop_zero]
    repeat still_step
    refine wpStill_nil ?_
    go_wp2_with fail
    refine C2.mono ?_
    rintro e w2 ⟨rfl,⟨A2,b2',a2',t2⟩,k2⟩
    obtain ⟨q1,q2⟩:=HDD.out w2 A2 b2' a2' k2 t2
    have HQ : Hid (_ ∧ _):=⟨q1,q2⟩
    clear HDD q1 q2 t2 k2 C2
    go_wp2
    go_ret
    exact ⟨rfl,⟨A2,b2',a2',HQ.out.1⟩,HQ.out.2⟩
  · rw [if_pos hE0,if_pos hE0]
    have hE0' : (R1.2.2 != 0) = true:=by simpa using hE0
    go_enter Tryz.func97,Tryz.ntmps97
    go_wp2_with fail
    refine wp_tail 7 (by kernel_rfl) (by kernel_rfl) ?_
    simp only [List.take_succ_cons,List.take_zero,List.drop_succ_cons,List.drop_zero]
    repeat still_step
    refine wpStill_nil ?_
    go_wp2_with fail
    refine C1.mono ?_
    rintro e w1 ⟨rfl,⟨A1,b1',a1',t1⟩,k1⟩
    have K1 : Keep N2 W0 w1:=((Keep.refl N2 W0).drew).trans k1
    have HQ : Hid (So No w1 B wv T A1 b1' a1' S hb (c + 14) (d.1,R1.1,R1.2.1) ∧ Keep (Nq No B wv) w w1):=⟨HS.out.via (K1.sub HN.out.1) ((t1.sub HN.out.1).more (by omega)),HK.out.trans (K1.sub HN.out.1)⟩
    clear C1 t1 k1 K1 HX1 HX2 HS HK x0 x1 x2 c0 hE0
    go_wp2
    go_ret
    exact ⟨rfl,⟨A1,b1',a1',HQ.out.1⟩,HQ.out.2⟩
end Go.Proofs.YtkmopcanaalemabGreat


namespace Go.Proofs.YtkmopcanaalemabGreat.C
open Go.RowKit
set_option maxRecDepth 20000 in
set_option maxHeartbeats 1000000 in
theorem rlog_pos (n : Int) (w : World) (h0 : 1 ≤ n) (h1 : n ≤ 9223372036854775807) : Calls Tryz.prog 87 #[.int .i64 n] w fun e w'=>e = .returned (.int .i64 (lgN n)) ∧ w' = w:=by
  have H1 : Hid (n ≤ 9223372036854775807):=h1
  clear h1
  go_enter Tryz.func87,Tryz.ntmps87
  go_wp2
  go_loop [3] (fun v=>∃ k : Nat,k ≤ 62 ∧ Hid (k = 0 ∨ 2 ^ (k - 1) < n.toNat) ∧ v = .int .i64 k) (fun v=>62 - (intOf v).toNat)
  case atStart=>exact ⟨0,by omega,.inl rfl,rfl⟩
  case round =>
    obtain ⟨k,hk,HK,rfl⟩:=hrel
    have hp:=pow_fit k hk
    have HP : Hid (((2 ^ k : Nat) : Int) = (2 : Int) ^ k):=pow_int k
    go_wp2
    · go_round
      case rel=>exact ⟨k + 1,by omega,.inr (by have:=HP.out;show 2 ^ k < _;omega),by go_num⟩
      case measure=>simp [intOf];omega
    · go_ret
      exact ⟨ret1 (by rw [← lgN_unique n k h0 H1.out (by have:=HP.out;omega) HK.out]),rfl⟩
    · go_ret
      obtain rfl : k = 62:=by omega
      have h63 : n.toNat ≤ 2 ^ 63:=by have:=H1.out;omega
      exact ⟨ret1 (by rw [← lgN_unique n 63 h0 H1.out h63 (.inr (by have:=HP.out;show 2 ^ 62 < _;omega))];rfl),rfl⟩
    · go_ret
      exact ⟨ret1 (by rw [← lgN_unique n k h0 H1.out (by have:=HP.out;omega) HK.out]),rfl⟩
set_option maxRecDepth 20000 in
set_option maxHeartbeats 1000000 in
theorem rceil_any (n : Int) (w : World) (h0 : 0 ≤ n) (h1 : n ≤ 65536) : Calls Tryz.prog 47 #[.int .i64 n] w fun e w'=>e = .returned (.tuple #[.int .i64 (up2 n),.int .i64 0]) ∧ w' = w:=by
  unfold up2
  by_cases hz : n = 0
  · subst hz
    rw [if_pos rfl]
    go_enter Tryz.func47,Tryz.ntmps47
    go_wp2
    go_ret2
    exact ⟨rfl,rfl⟩
  · rw [if_neg hz]
    have hn : 1 ≤ n:=by omega
    obtain ⟨hc,_,_,_,_,h30⟩:=cl_facts n hn (by omega)
    have HC : Hid (wrap64 (2 ^ lgN n) = cl n):=hc
    clear hc
    go_enter Tryz.func47,Tryz.ntmps47
    go_wp2_with (go_at_call 87;refine (rlog_pos _ _ hn (by omega)).mono ?_;rintro e w' ⟨rfl,rfl⟩)
    go_ret2
    exact ⟨ret2 HC.out rfl,rfl⟩
end Go.Proofs.YtkmopcanaalemabGreat.C


namespace Go.Proofs.YtkmopcanaalemabGreat
open Go.RowKit
def RH (No : Nat → Prop) (w : World) (S c : Nat) (s : H.St) : Prop:=∃ va r,H.Rp No w S c va r ∧ H.Sim 0 s r ∧ r.ck ≤ (c : Int)
theorem ck_take (r : H.Rs) (n : Int) : (H.rtSt r n).ck = r.ck:=by unfold H.rtSt;split;rfl;split <;> rfl
theorem ck_give (r : H.Rs) (n : Int) : (H.rgSt r n).ck ≤ r.ck + 1:=by
  unfold H.rgSt
  split
  · exact Int.le_refl _
  · omega
section
variable {No No' : Nat → Prop} {w w' : World} {S c : Nat} {s : H.St}
theorem RH.below (h : RH No w S c s) (k : Below w.heap.size w w') : RH No w' S c s:=by
  obtain ⟨va,r,h1,h2,h3⟩:=h
  exact ⟨va,r,h1.below k,h2,h3⟩
theorem RH.more (h : RH No w S c s) {c' : Nat} (hc : c ≤ c') : RH No w S c' s:=by
  obtain ⟨va,r,h1,h2,h3⟩:=h
  exact ⟨va,r,h1.more hc,h2,by omega⟩
theorem RH.news (h : RH No w S c s) (k : Below w.heap.size w w') : RH (fun g=>No g ∨ (w.heap.size ≤ g ∧ g < w'.heap.size)) w' S c s:=by
  obtain ⟨va,r,h1,h2,h3⟩:=h
  refine ⟨va,r,h1.far (k.block S h1.apart.2) (fun g e=>k.block g (h1.row.lt g e).2) (Nat.le_refl _) (fun g q=>?_),h2,h3⟩
  have:=k.size
  rcases q with q | q
  · have:=h1.nos g q
    exact ⟨by omega,fun e=>h1.noS (e ▸ q),fun e=>h1.nov g e q⟩
  · exact ⟨q.2,fun e=>by have:=h1.apart.2;omega,fun e=>by have:=(h1.row.lt g e).2;omega⟩
theorem RH.sub (h : RH No w S c s) (hn : ∀ g,No' g → No g) : RH No' w S c s:=by
  obtain ⟨va,r,h1,h2,h3⟩:=h
  exact ⟨va,r,h1.far rfl (fun _ _=>rfl) (Nat.le_refl _) (fun g q=>⟨h1.nos g (hn g q),fun e=>h1.noS (e ▸ hn g q),fun e=>h1.nov g e (hn g q)⟩),h2,h3⟩
theorem RH.frame (h : RH No w S c s) (hs : w.heap.size ≤ w'.heap.size) (hb : ∀ g,g < w.heap.size → ¬ No g → w'.heap[g]? = w.heap[g]?) : RH No w' S c s:=by
  obtain ⟨va,r,h1,h2,h3⟩:=h
  exact ⟨va,r,h1.far (hb S h1.apart.2 h1.noS) (fun g e=>hb g (h1.row.lt g e).2 (h1.nov g e)) (Nat.le_refl _) (fun g q=>⟨Nat.lt_of_lt_of_le (h1.nos g q) hs,fun e=>h1.noS (e ▸ q),fun e=>h1.nov g e q⟩),h2,h3⟩
theorem RH.nos (h : RH No w S c s) : ∀ g,No g → g < w.heap.size:=by
  obtain ⟨va,r,h1,h2,h3⟩:=h
  exact h1.nos
theorem rtk (h : RH No w S c s) (hc : c ≤ 900000) (iv : H.Inv 0 s) (n : Int) :
    Calls Tryz.prog 48 #[.pointer (some ⟨S,0,none⟩),.int .i64 n] w fun e w'=>e = .returned (.tuple #[.int .i64 (H.takeId s n),.int .i64 (H.takeE s n)]) ∧ RH No w' S (c + 1) (H.takeSt s n) ∧ Keep No w w':=by
  obtain ⟨va,r,h1,h2,h3⟩:=h
  have hl:=h2.live iv
  have h5:=iv.ok.l0
  have h6:=iv.l1
  have h7:=iv.l2
  have hlim:=h2.lim
  refine (H.rtake_any h1 (by omega) (h2.ok iv) (by omega) (by omega) (by omega) n).mono ?_
  rintro e w' ⟨rfl,⟨v',hp⟩,kk⟩
  obtain ⟨m1,m2⟩:=h2.take iv n
  exact ⟨by rw [m2,h2.E iv n],⟨v',_,hp,m1,by rw [ck_take];omega⟩,kh kk⟩
theorem rgv (h : RH No w S c s) (hc : c ≤ 900000) (iv : H.Inv 0 s) (id : Int) :
    Calls Tryz.prog 49 #[.pointer (some ⟨S,0,none⟩),.int .i64 id] w fun e w'=>e = .returned (.int .i64 (H.giveE s id)) ∧ RH No w' S (c + 1) (H.giveSt s id) ∧ Keep No w w':=by
  obtain ⟨va,r,h1,h2,h3⟩:=h
  refine (H.rgive_any h1 (by omega) h2.ck0 (by omega) id).mono ?_
  rintro e w' ⟨rfl,hp,kk⟩
  exact ⟨by rw [h2.giveE id],⟨va,_,hp.more (by omega),h2.give iv id,by have:=ck_give r id;omega⟩,kh kk⟩
end
end Go.Proofs.YtkmopcanaalemabGreat


namespace Go.Proofs.YtkmopcanaalemabGreat
open Go.RowKit
set_option maxRecDepth 20000 in
set_option maxHeartbeats 2000000 in
theorem rnew_two {No:Nat→Prop} {w:World} {S c:Nat} {s:H.St} (h:RH No w S c s) (hc:c≤700000) (iv:H.Inv 0 s) (x y z:Nat) (hx:x≤65536) (hy:y≤65536) (hz:C.up2 (y:Nat)=(z:Nat)) (hz2:z≤65536) (he:H.takeE s 4=0) (he2:H.takeE (H.takeSt s 4) (x:Nat)=0) (he3:H.takeE (H.takeSt (H.takeSt s 4) (x:Nat)) (3 * (z:Nat))≠0):
 Calls Tryz.prog 25 #[.pointer (some ⟨S,0,none⟩),.int .i64 (x:Nat),.int .i64 (y:Nat)] w fun e w'=>e= .returned (.tuple #[.pointer none,.int .i64 (H.takeE (H.takeSt (H.takeSt s 4) (x:Nat)) (3 * (z:Nat)))])∧RH No w' S (c+5) (H.giveSt (H.giveSt (H.takeSt (H.takeSt s 4) (x:Nat)) (H.takeId (H.takeSt s 4) (x:Nat))) (H.takeId s 4))∧Keep No w w':=by
 have h1:¬((x:Int)<0):=by omega
 have h2:¬(65536<(x:Int)):=by omega
 have h3:¬((y:Int)<0):=by omega
 have h4:¬(65536<(y:Int)):=by omega
 have C3:=fun W=>C.rceil_any (y:Nat) W (by omega) (by omega)
 rw[hz] at C3
 have C4:=rtk h (by omega) iv 4
 rw[he] at C4
 have iv2:=iv.take 4
 have iv3:=iv2.take (x:Nat)
 have C5:=fun W (h':RH No W S (c+1) (H.takeSt s 4))=>rtk h' (by omega) iv2 (x:Nat)
 rw[he2] at C5
 have C6:=fun W (h':RH No W S (c+1+1) (H.takeSt (H.takeSt s 4) (x:Nat)))=>rtk h' (by omega) iv3 (3 * (z:Nat))
 rw[(H.takeSt_bad (.inl he3)).1] at C6
 have C7:=fun W (h':RH No W S (c+1+1+1) (H.takeSt (H.takeSt s 4) (x:Nat)))=>rgv h' (by omega) iv3 (H.takeId (H.takeSt s 4) (x:Nat))
 have iv4:=iv3.give (H.takeId (H.takeSt s 4) (x:Nat))
 have C8:=fun W (h':RH No W S (c+1+1+1+1) (H.giveSt (H.takeSt (H.takeSt s 4) (x:Nat)) (H.takeId (H.takeSt s 4) (x:Nat))))=>rgv h' (by omega) iv4 (H.takeId s 4)
 have hw:IntKind.i64.wrap (3 * (z:Int))=3 * (z:Int):=by rw[IntKind.wrap_i64];omega
 generalize H.giveE (H.giveSt (H.takeSt (H.takeSt s 4) (x:Nat)) (H.takeId (H.takeSt s 4) (x:Nat))) (H.takeId s 4)=E5 at *
 generalize H.giveSt (H.giveSt (H.takeSt (H.takeSt s 4) (x:Nat)) (H.takeId (H.takeSt s 4) (x:Nat))) (H.takeId s 4)=s5 at *
 generalize H.giveE (H.takeSt (H.takeSt s 4) (x:Nat)) (H.takeId (H.takeSt s 4) (x:Nat))=E4 at *
 generalize H.giveSt (H.takeSt (H.takeSt s 4) (x:Nat)) (H.takeId (H.takeSt s 4) (x:Nat))=s4 at *
 generalize H.takeE (H.takeSt (H.takeSt s 4) (x:Nat)) (3 * (z:Nat))=E at *
 generalize H.takeId (H.takeSt (H.takeSt s 4) (x:Nat)) (3 * (z:Nat))=I3 at *
 generalize H.takeSt (H.takeSt s 4) (x:Nat)=s3 at *
 generalize H.takeId (H.takeSt s 4) (x:Nat)=I2 at *
 generalize H.takeSt s 4=s2 at *
 generalize H.takeId s 4=I at *
 have heb:(E !=0)=true:=by simp[he3]
 clear h iv he he2 he3 iv2 iv3 iv4 hz
 go_enter Tryz.func25,Tryz.ntmps25
 go_wp2_with fail
 refine (C3 _).mono ?_;rintro e w' ⟨rfl,hw'⟩;rw[hw'];clear hw'
 go_wp2_with fail
 refine C4.mono ?_;rintro e W1 ⟨rfl,hp1,kk1⟩
 have CC:=C5 W1 hp1
 have HK1:Hid (Keep No w W1):=kk1
 clear hp1 kk1 C4 C5
 go_wp2_with fail
 refine CC.mono ?_;rintro e W2 ⟨rfl,hp2,kk2⟩
 have CD:=C6 W2 hp2
 have HK2:Hid (Keep No w W2):=HK1.out.trans kk2
 clear hp2 kk2 CC C6
 go_wp2_with fail
 refine CD.mono ?_;rintro e W3 ⟨rfl,hp3,kk3⟩
 have CE:=C7 W3 hp3
 have HK3:Hid (Keep No w W3):=HK2.out.trans kk3
 clear hp3 kk3 CD C7
 go_wp2_with fail
 refine CE.mono ?_;rintro e W4 ⟨rfl,hp4,kk4⟩
 have CF:=C8 W4 hp4
 have HK4:Hid (Keep No w W4):=HK3.out.trans kk4
 clear hp4 kk4 CE C8
 go_wp2_with fail
 refine CF.mono ?_;rintro e W5 ⟨rfl,hp5,kk5⟩
 have HP:Hid (RH No W5 S (c+1+1+1+1+1) s5∧Keep No w W5):=⟨hp5,HK4.out.trans kk5⟩
 clear hp5 kk5 CF
 go_wp2_with fail
 go_ret2
 exact ⟨rfl,HP.out⟩
structure Nr (w w':World) (x z RT A P ka va ca:Nat) (S:Nat) (i1 i2:Int):Prop where
 str:w'.heap[RT]?=some (.cells #[.slice (some ⟨A,0,none⟩) x x,.pointer (some ⟨P,0,none⟩),.int .i64 i1,.int .i64 i2,.int .i64 0,.int .i64 0,.pointer (some ⟨S,0,none⟩)] 87)
 arr:w'.heap[A]?=some (.cells (zeros3 x) 36)
 part:∃wa wb,Rn wa wb P ka va ca z∧Below wb.heap.size wb w'∧w.heap.size≤wa.heap.size
 ge:w.heap.size≤RT∧w.heap.size≤A
 ne:RT≠A∧RT≠P∧RT≠ka∧RT≠va∧RT≠ca∧A≠P∧A≠ka∧A≠va∧A≠ca
theorem nr_of {No:Nat→Prop} {w W w' wa wb:World} {x z S c RT A P ka va ca:Nat} {s:H.St} {i1 i2:Int} (h:RH No W S c s) (hk:Keep No w W) (hB:Below W.heap.size W w') (hRT:w'.heap[RT]?=some (.cells #[.slice (some ⟨A,0,none⟩) x x,.pointer (some ⟨P,0,none⟩),.int .i64 i1,.int .i64 i2,.int .i64 0,.int .i64 0,.pointer (some ⟨S,0,none⟩)] 87))
 (hA:w'.heap[A]?=some (.cells (zeros3 x) 36)) (hr:Rn wa wb P ka va ca z) (hb:Below wb.heap.size wb w') (hwa:W.heap.size≤wa.heap.size) (hgRT:wb.heap.size≤RT) (hgA:W.heap.size≤A) (hAn:A<wa.heap.size∨wb.heap.size≤A) (hne:RT≠A):
 RH (fun g=>No g∨g=RT∨g=A∨g=P∨g=ka∨g=va∨g=ca) w' S c s∧Keep No w w'∧Nr w w' x z RT A P ka va ca S i1 i2:=by
 have l1:=hr.lt
 have l2:=hr.ge
 have l3:=hk.size
 have lR:RT<w'.heap.size:=(Array.getElem?_eq_some_iff.1 hRT).1
 have lA:A<w'.heap.size:=(Array.getElem?_eq_some_iff.1 hA).1
 have l4:=hb.size
 have l5:=hr.bel.size
 refine ⟨(h.news hB).sub (fun g q=>?_),hk.bel hB,⟨hRT,hA,⟨wa,wb,hr,hb,by omega⟩,by omega,by omega⟩⟩
 rcases q with q | q | q | q | q | q | q
 ·exact .inl q
 all_goals exact .inr (by omega)
set_option maxRecDepth 20000 in
set_option maxHeartbeats 2000000 in
theorem rnew_good {No:Nat→Prop} {w:World} {S c:Nat} {s:H.St} (h:RH No w S c s) (hc:c≤700000) (iv:H.Inv 0 s) (x y z:Nat) (hx:x≤65536) (hy:y≤65536) (hz:C.up2 (y:Nat)=(z:Nat)) (hz2:z≤65536) (he:H.takeE s 4=0) (he2:H.takeE (H.takeSt s 4) (x:Nat)=0) (he3:H.takeE (H.takeSt (H.takeSt s 4) (x:Nat)) (3 * (z:Nat))=0):
 Calls Tryz.prog 25 #[.pointer (some ⟨S,0,none⟩),.int .i64 (x:Nat),.int .i64 (y:Nat)] w fun e w'=>∃RT A P ka va ca,e= .returned (.tuple #[.pointer (some ⟨RT,0,none⟩),.int .i64 0])∧RH (fun g=>No g∨g=RT∨g=A∨g=P∨g=ka∨g=va∨g=ca) w' S (c+3) (H.takeSt (H.takeSt (H.takeSt s 4) (x:Nat)) (3 * (z:Nat)))∧Keep No w w'∧
  Nr w w' x z RT A P ka va ca S (H.takeId (H.takeSt s 4) (x:Nat)) (H.takeId (H.takeSt (H.takeSt s 4) (x:Nat)) (3 * (z:Nat))):=by
 have h1:¬((x:Int)<0):=by omega
 have h2:¬(65536<(x:Int)):=by omega
 have h3:¬((y:Int)<0):=by omega
 have h4:¬(65536<(y:Int)):=by omega
 have C3:=fun W=>C.rceil_any (y:Nat) W (by omega) (by omega)
 rw[hz] at C3
 have C4:=rtk h (by omega) iv 4
 rw[he] at C4
 have iv2:=iv.take 4
 have iv3:=iv2.take (x:Nat)
 have C5:=fun W (h':RH No W S (c+1) (H.takeSt s 4))=>rtk h' (by omega) iv2 (x:Nat)
 rw[he2] at C5
 have C6:=fun W (h':RH No W S (c+1+1) (H.takeSt (H.takeSt s 4) (x:Nat)))=>rtk h' (by omega) iv3 (3 * (z:Nat))
 rw[he3] at C6
 have hw:IntKind.i64.wrap (3 * (z:Int))=3 * (z:Int):=by rw[IntKind.wrap_i64];omega
 have CN:=fun W=>rnew_any z W hz2
 have m1:=make_vals x hx
 generalize H.takeSt (H.takeSt (H.takeSt s 4) (x:Nat)) (3 * (z:Nat))=s4 at *
 generalize H.takeId (H.takeSt (H.takeSt s 4) (x:Nat)) (3 * (z:Nat))=I3 at *
 generalize H.takeSt (H.takeSt s 4) (x:Nat)=s3 at *
 generalize H.takeId (H.takeSt s 4) (x:Nat)=I2 at *
 generalize H.takeSt s 4=s2 at *
 generalize H.takeId s 4=I at *
 clear h iv he he2 he3 iv2 iv3 hz
 unfold pp at CN
 go_enter Tryz.func25,Tryz.ntmps25
 go_wp2_with fail
 refine (C3 _).mono ?_;rintro e w' ⟨rfl,hw'⟩;rw[hw'];clear hw'
 go_wp2_with fail
 refine C4.mono ?_;rintro e W1 ⟨rfl,hp1,kk1⟩
 have CC:=C5 W1 hp1
 have HK1:Hid (Keep No w W1):=kk1
 clear hp1 kk1 C4 C5
 go_wp2_with fail
 refine CC.mono ?_;rintro e W2 ⟨rfl,hp2,kk2⟩
 have CD:=C6 W2 hp2
 have HK2:Hid (Keep No w W2):=HK1.out.trans kk2
 clear hp2 kk2 CC C6
 go_wp2_with fail
 refine CD.mono ?_;rintro e W3 ⟨rfl,hp3,kk3⟩
 have HP3:Hid (RH No W3 S (c+1+1+1) s4∧Keep No w W3):=⟨hp3,HK2.out.trans kk3⟩
 clear hp3 kk3 CD
 obtain ⟨zz,hzz⟩:∃zz,zeros3 x=zz:=⟨_,rfl⟩
 have HZZ:Hid (zeros3 x=zz):=hzz
 rw[hzz] at m1
 clear hzz
 obtain ⟨Wm,hWm⟩:∃Wm,W3.drew.alloc (.cells zz 36)=Wm:=⟨_,rfl⟩
 have CNd:=CN W3.drew
 have CNm:=CN Wm
 have HWm:Hid (Below W3.heap.size W3 Wm∧Wm.heap.size=W3.heap.size+1∧Wm.heap[W3.heap.size]?=some (.cells zz 36)):=by
  rw[←hWm]
  exact ⟨bthen (bdrew1 W3) (Nat.le_refl _) (b1 _ _),by simp,(MapKept.heap_alloc W3.drew _).1⟩
 clear CN
 go_wp2_with fail
 go_region_with (first
  | (go_at_call 50;refine CNd.mono ?_;rintro e w4 ⟨P,ka,va,ca,rfl,r4⟩;have HRd:Hid (Rn W3.drew w4 P ka va ca z):=r4;clear r4)
  | (go_at_call 50;refine CNm.mono ?_;rintro e w4 ⟨P,ka,va,ca,rfl,r4⟩;have HRm:Hid (Rn Wm w4 P ka va ca z):=r4;clear r4))
 all_goals
  go_wp2_with fail
  go_ret2
 all_goals first
  | exact ⟨w4.heap.size,W3.heap.size,P,ka,va,ca,rfl,nr_of HP3.out.1 HP3.out.2 (bthen (bthen HWm.out.1 HWm.out.1.size HRm.out.bel) (by have:=HWm.out.1.size;have:=HRm.out.bel.size;omega) (b1 _ _)) (MapKept.heap_alloc w4 _).1
   (by have h0:=HWm.out.2.2
       have h1:=HRm.out.bel.block W3.heap.size (by have:=HWm.out.2.1;omega)
       rw[Below.heap_alloc _ _ _ (by have:=HWm.out.2.1;have:=HRm.out.bel.size;omega),h1,h0,HZZ.out]) HRm.out (b1 _ _) HWm.out.1.size (Nat.le_refl _) (Nat.le_refl _) (.inl (by have:=HWm.out.2.1;omega)) (by have:=HWm.out.2.1;have:=HRm.out.bel.size;omega)⟩
  | exact ⟨w4.heap.size+1,w4.heap.size,P,ka,va,ca,rfl,nr_of HP3.out.1 HP3.out.2 (bthen (bthen (bdrew1 W3) (Nat.le_refl _) HRd.out.bel) (by have h0:=HRd.out.bel.size;exact h0) (b2 _ _ _))
   (by have h0:=(MapKept.heap_alloc (w4.alloc (.cells zz 36)) (.cells #[.slice (some ⟨w4.heap.size,0,none⟩) x x,.pointer (some ⟨P,0,none⟩),.int .i64 I2,.int .i64 I3,.int .i64 0,.int .i64 0,.pointer (some ⟨S,0,none⟩)] 87)).1
       simpa using h0)
   (by rw[Below.heap_alloc _ _ _ (by simp),HZZ.out];exact (MapKept.heap_alloc w4 _).1) HRd.out (b2 _ _ _) (Nat.le_refl _) (by omega) (by have h0:=HRd.out.bel.size;exact h0) (.inr (Nat.le_refl _)) (by omega)⟩
end Go.Proofs.YtkmopcanaalemabGreat


namespace Go.Proofs.YtkmopcanaalemabGreat
open Go.RowKit
theorem new_hp (w : World) (n : Int) (No : Nat → Prop) (hn : ∀ g,No g → g < w.heap.size) : H.Hp No ((w.alloc (.map #[] 0)).alloc (.cells #[.int .i64 n,.int .i64 0,.int .i64 0,.slice none 0 0,.map (some w.heap.size)] 105)) (w.heap.size + 1) w.heap.size 0 (.slice none 0 0) (H.newSt n):=by
  have e : (w.alloc (.map #[] 0)).heap.size = w.heap.size + 1:=by simp
  have hs:=(MapKept.heap_alloc (w.alloc (.map #[] 0)) (.cells #[.int .i64 n,.int .i64 0,.int .i64 0,.slice none 0 0,.map (some w.heap.size)] 105)).1
  rw [e] at hs
  refine ⟨hs,World.ownsRow_nil _ _ _ _,(H.Rdy.made No w).alloc _,Nat.le_refl _,fun q=>?_,fun q=>?_,fun g e=>(by cases e),fun g q=>?_⟩
  · have:=hn _ q;omega
  · have:=hn _ q;omega
  · have:=hn _ q;simp;omega
theorem new_rh (w : World) (n : Int) (No : Nat → Prop) (hn : ∀ g,No g → g < w.heap.size) : RH No (w.alloc (.cells #[.int .i64 n,.int .i64 0,.int .i64 0,.slice none 0 0] 67)) w.heap.size 0 (H.newSt n):=by
  refine ⟨.slice none 0 0,⟨n,0,0,[]⟩,⟨(MapKept.heap_alloc w _).1,World.ownsRow_nil _ _ _ _,Nat.le_refl _,fun q=>?_,fun g e=>(by cases e),fun g q=>?_⟩,H.Sim.new n,Int.le_refl _⟩
  · have:=hn _ q;omega
  · have:=hn _ q;simp;omega
theorem TT.frame2 {No : Nat → Prop} {w w' : World} {T A b a S hb c : Nat} {t : TS} {s : H.St} (h : TT No w T A b a S hb c t s) (hos : w'.os = w.os) (ht : w'.tape = w.tape) (ho : w'.output = w.output) (hs : w.heap.size ≤ w'.heap.size) (hk : ∀ g,g < w.heap.size → ¬ No g → w'.heap[g]? = w.heap[g]?) :
    TT (fun g=>No g ∨ (w.heap.size ≤ g ∧ g < w'.heap.size)) w' T A b a S hb c t s:=by
  obtain ⟨vb,hp⟩:=h.hp
  have l1:=h.tm.pm.ltA
  have l2:=h.tm.pm.ltB
  have l3:=h.tm.pm.pt.lta
  have l4:=h.tm.pm.pt.ltb
  have k : Keep (fun g=>¬ No g) w w':=⟨hos,ht,ho,hs,hk⟩
  refine ⟨h.tm.kept k h.nT h.nA h.nb h.na,⟨vb,Hp.sub (Hp.frame2 hp hos ht ho hs (fun g hg hn=>hk g hg (fun q=>hn (.inl q)))) (fun g q=>?_)⟩,fun q=>q.elim h.nT (by omega),fun q=>q.elim h.nA (by omega),fun q=>q.elim h.nb (by omega),fun q=>q.elim h.na (by omega),h.ti,h.iv,h.p0,h.p1⟩
  rcases q with (q | q) | q
  · exact .inl (.inl q)
  · exact .inr q
  · exact .inl (.inr q)
def inP (x : Int) : Prop:=0 ≤ x ∧ x ≤ 65536
instance (x : Int) : Decidable (inP x):=inferInstanceAs (Decidable (_ ∧ _))
def nE (s : H.St) (x y : Int) : Int:=if ¬ (inP x ∧ inP y) then 1 else if H.takeE s 4 ≠ 0 then H.takeE s 4 else tpE (H.takeSt s 4) x (C.up2 y)
def nS (s : H.St) (x y : Int) : H.St:=if ¬ (inP x ∧ inP y) then s else if H.takeE s 4 ≠ 0 then s else if tpE (H.takeSt s 4) x (C.up2 y) ≠ 0 then H.giveSt (tpS (H.takeSt s 4) x (C.up2 y)) (H.takeId s 4) else tpS (H.takeSt s 4) x (C.up2 y)
theorem nS_inv {s : H.St} (iv : H.Inv 0 s) (x y : Int) : H.Inv 0 (nS s x y):=by
  unfold nS
  split
  · exact iv
  · split
    · exact iv
    · split
      · exact (tp_inv (iv.take 4) _ _).give _
      · exact tp_inv (iv.take 4) _ _
theorem inP.nat {x : Int} (h : inP x) : ∃ n : Nat,x = n ∧ n ≤ 65536:=⟨x.toNat,by have:=h.1;omega,by have:=h.1;have:=h.2;omega⟩
theorem nE_arg {s : H.St} {x y : Int} (hp : ¬ (inP x ∧ inP y)) : nE s x y = 1 ∧ nS s x y = s:=⟨by unfold nE;rw [if_pos hp],by unfold nS;rw [if_pos hp]⟩
theorem nE_four {s : H.St} {x y : Int} (hp : inP x ∧ inP y) (h4 : H.takeE s 4 ≠ 0) : nE s x y = H.takeE s 4 ∧ nS s x y = s:=by
  have hp' : ¬ ¬ (inP x ∧ inP y):=fun q=>q hp
  exact ⟨by unfold nE;rw [if_neg hp',if_pos h4],by unfold nS;rw [if_neg hp',if_pos h4]⟩
theorem nE_rest {s : H.St} {x y : Int} (hp : inP x ∧ inP y) (h4 : H.takeE s 4 = 0) : nE s x y = tpE (H.takeSt s 4) x (C.up2 y) ∧ nS s x y = (if tpE (H.takeSt s 4) x (C.up2 y) ≠ 0 then H.giveSt (tpS (H.takeSt s 4) x (C.up2 y)) (H.takeId s 4) else tpS (H.takeSt s 4) x (C.up2 y)):=by
  have hp' : ¬ ¬ (inP x ∧ inP y):=fun q=>q hp
  have h4' : ¬ H.takeE s 4 ≠ 0:=fun q=>q h4
  exact ⟨by unfold nE;rw [if_neg hp',if_neg h4'],by unfold nS;rw [if_neg hp',if_neg h4']⟩
theorem tpE_one {s : H.St} {n z : Int} (q : H.takeE s n ≠ 0) : tpE s n z = H.takeE s n ∧ tpS s n z = s:=⟨by unfold tpE;rw [if_pos q],by unfold tpS;rw [if_pos q]⟩
theorem tpE_two {s : H.St} {n z : Int} (q : H.takeE s n = 0) : tpE s n z = H.takeE (H.takeSt s n) (3 * z) ∧ tpS s n z = if H.takeE (H.takeSt s n) (3 * z) ≠ 0 then H.giveSt (H.takeSt s n) (H.takeId s n) else H.takeSt (H.takeSt s n) (3 * z):=by
  have q' : ¬ H.takeE s n ≠ 0:=fun h=>h q
  exact ⟨by unfold tpE;rw [if_neg q'],by unfold tpS;rw [if_neg q']⟩
structure Okn (s : H.St) (x y : Int) (n z : Nat) : Prop where
  ex : x = n
  hn : n ≤ 65536
  hy : ∃ m : Nat,y = m ∧ m ≤ 65536 ∧ C.up2 (m : Nat) = (z : Nat)
  hz : Rt z
  e1 : H.takeE s 4 = 0
  e2 : H.takeE (H.takeSt s 4) (n : Nat) = 0
  e3 : H.takeE (H.takeSt (H.takeSt s 4) (n : Nat)) (3 * (z : Nat)) = 0
  es : nS s x y = H.takeSt (H.takeSt (H.takeSt s 4) (n : Nat)) (3 * (z : Nat))
theorem okn {s : H.St} {x y : Int} (he : nE s x y = 0) : ∃ n z,Okn s x y n z:=by
  by_cases hp : inP x ∧ inP y
  · by_cases h4 : H.takeE s 4 = 0
    · obtain ⟨e1,e2⟩:=nE_rest hp h4
      rw [e1] at he
      rw [if_neg (fun q=>q he)] at e2
      obtain ⟨n,rfl,hn⟩:=hp.1.nat
      obtain ⟨m,rfl,hm⟩:=hp.2.nat
      obtain ⟨z,hz,hz2,_⟩:=up2_rt (m : Nat) (by omega) (by omega)
      rw [hz] at he e2
      by_cases q : H.takeE (H.takeSt s 4) (n : Nat) = 0
      · obtain ⟨e3,e4⟩:=tpE_two (z:=(z : Nat)) q
        rw [e3] at he
        rw [if_neg (fun q=>q he)] at e4
        exact ⟨n,z,rfl,hn,⟨m,rfl,hm,hz⟩,hz2,h4,q,he,e2.trans e4⟩
      · rw [(tpE_one (z:=(z : Nat)) q).1] at he;exact absurd he q
    · rw [(nE_four hp h4).1] at he;exact absurd he h4
  · rw [(nE_arg hp).1] at he;cases he
abbrev cv (l x y : Int) (v : Value) : Value:=.agg #[.int .i64 l,.int .i64 x,.int .i64 y,v]
end Go.Proofs.YtkmopcanaalemabGreat


namespace Go.Proofs.YtkmopcanaalemabGreat
open Go.RowKit
def tolV (t : Tol) : Value:=.agg #[.int .i64 t.1.1,.int .i64 t.1.2.1,.string t.1.2.2,.int .i64 t.2.1.1,.int .i64 t.2.1.2.1,.string t.2.1.2.2,.bool t.2.2.1,.int .i64 t.2.2.2]
theorem blk_set {w : World} {B j : Nat} {cur : Array Value} {t : TypeId} (h : w.heap[B]? = some (.cells cur t (0,0))) (v : Value) : (w.setCell ⟨B,j,none⟩ v).heap[B]? = some (.cells (cur.setIfInBounds j v) t (0,0)):=by
  have hlt:=(Array.getElem?_eq_some_iff.1 h).1
  have he:=(Array.getElem?_eq_some_iff.1 h).2
  show (w.heap.modify B _)[B]? = _
  rw [Array.getElem?_eq_getElem (by rw [Array.size_modify];exact hlt),Array.getElem_modify_self,he]
  simp
theorem So.to {No : Nat → Prop} {w W : World} {B : Nat} {wv : Value} {T A b a S hb c : Nat} {d : SD} (h : So No w B wv T A b a S hb c d) (k : Keep (fun g=>g ≠ B ∧ g < w.heap.size) w W) (s' : SS) (hb' : W.heap[B]? = some (.cells (scl T wv s') 73 (0,0))) (hw : s'.wt = d.1.wt) : So No W B wv T A b a S hb c (s',d.2) ∧ Keep No w W:=by
  have hl:=h.lt
  refine ⟨⟨hb',?_,?_,h.nB,h.nW⟩,⟨k.os,k.tape,k.output,k.size,fun g hg q=>k.block g hg ⟨fun e=>h.nB (e ▸ q),hg⟩⟩⟩
  · show W.ownsRow (B + 1) 70 2 wv s'.wt.length (rws s'.wt.reverse)
    rw [hw]
    have hlt:=h.row.lt
    refine ⟨h.row.1,?_⟩
    rcases h.row.2 with h2 | ⟨g,cap,cur,e,h2,h3,r⟩
    · exact .inl h2
    · have q:=(hlt g (by rw [e];rfl)).2
      exact .inr ⟨g,cap,cur,e,h2,(k.block g q ⟨by omega,q⟩).trans h3,r⟩
  · exact (h.tt.frame2 k.os k.tape k.output k.size (fun g hg hn=>k.block g hg ⟨fun e=>hn (.inr (.inl e)),hg⟩)).sub (fun g q=>.inl q)
structure R8 (w : World) (N : Nat) (t : Tol) : Prop where
  blk : w.heap[N]? = some (.cells #[.int .i64 t.1.1,.int .i64 t.1.2.1,.string t.1.2.2,.int .i64 t.2.1.1,.int .i64 t.2.1.2.1,.string t.2.1.2.2,.bool t.2.2.1,.int .i64 t.2.2.2] 78 (0,0))
theorem R8.cell {w : World} {N : Nat} {t : Tol} (h : R8 w N t) {j : Nat} {v : Value} (hj : (#[.int .i64 t.1.1,.int .i64 t.1.2.1,.string t.1.2.2,.int .i64 t.2.1.1,.int .i64 t.2.1.2.1,.string t.2.1.2.2,.bool t.2.2.1,.int .i64 t.2.2.2] : Array Value)[j]? = some v) : w.cell? ⟨N,j,none⟩ = some v:=by
  simp only [World.cell?,h.blk]
  simpa using hj
theorem R8.free {w : World} {N : Nat} {t : Tol} (h : R8 w N t) (j : Nat) : w.frozen? ⟨N,j,none⟩ = false:=by
  simp [World.frozen?,h.blk]
theorem R8.lt {w : World} {N : Nat} {t : Tol} (h : R8 w N t) : N < w.heap.size:=(Array.getElem?_eq_some_iff.1 h.blk).1
def set8 (w : World) (N : Nat) (t : Tol) : World:=(((((((w.setCell ⟨N,0,none⟩ (.int .i64 t.1.1)).setCell ⟨N,1,none⟩ (.int .i64 t.1.2.1)).setCell ⟨N,2,none⟩ (.string t.1.2.2)).setCell ⟨N,3,none⟩ (.int .i64 t.2.1.1)).setCell ⟨N,4,none⟩ (.int .i64 t.2.1.2.1)).setCell ⟨N,5,none⟩ (.string t.2.1.2.2)).setCell ⟨N,6,none⟩ (.bool t.2.2.1)).setCell ⟨N,7,none⟩ (.int .i64 t.2.2.2)
theorem R8.set {w : World} {N : Nat} {t : Tol} (h : R8 w N t) (t' : Tol) : R8 (set8 w N t') N t':=by
  have h0:=blk_set (j:=0) h.blk (.int .i64 t'.1.1)
  have h1:=blk_set (j:=1) h0 (.int .i64 t'.1.2.1)
  have h2:=blk_set (j:=2) h1 (.string t'.1.2.2)
  have h3:=blk_set (j:=3) h2 (.int .i64 t'.2.1.1)
  have h4:=blk_set (j:=4) h3 (.int .i64 t'.2.1.2.1)
  have h5:=blk_set (j:=5) h4 (.string t'.2.1.2.2)
  have h6:=blk_set (j:=6) h5 (.bool t'.2.2.1)
  have h7:=blk_set (j:=7) h6 (.int .i64 t'.2.2.2)
  exact ⟨h7.trans (by simp)⟩
theorem Keep.set8 {No : Nat → Prop} {w w1 : World} (h : Keep No w w1) {N : Nat} (hN : ¬ No N) (t : Tol) : Keep No w (Proofs.YtkmopcanaalemabGreat.set8 w1 N t) :=
  (((((((h.set (p:=⟨N,0,none⟩) hN _).set (p:=⟨N,1,none⟩) hN _).set (p:=⟨N,2,none⟩) hN _).set (p:=⟨N,3,none⟩) hN _).set (p:=⟨N,4,none⟩) hN _).set (p:=⟨N,5,none⟩) hN _).set (p:=⟨N,6,none⟩) hN _).set (p:=⟨N,7,none⟩) hN _
theorem R8.made (w : World) : R8 (w.alloc (.cells #[.int .i64 0,.int .i64 0,.string ⟨#[]⟩,.int .i64 0,.int .i64 0,.string ⟨#[]⟩,.bool false,.int .i64 0] 78)) w.heap.size (nil,nil,false,0):=⟨(MapKept.heap_alloc w _).1⟩
theorem R8.kept {No : Nat → Prop} {w w' : World} {N : Nat} {t : Tol} (h : R8 w N t) (k : Keep No w w') (hN : No N) : R8 w' N t:=⟨(k.block N h.lt hN).trans h.blk⟩
set_option maxRecDepth 20000 in
set_option maxHeartbeats 4000000 in
theorem ask_any {No : Nat → Prop} {w : World} {B : Nat} {wv : Value} {T A b a S hb c : Nat} {d : SD} (h : So No w B wv T A b a S hb c d) (k : Int) (v u : V) :
    Calls Tryz.prog 101 #[.pointer (some ⟨B,0,none⟩),.int .i64 k,vv v,vv u] w fun e w'=>e = .returned (tolV (askT v u)) ∧ So No w' B wv T A b a S hb c (askD d k) ∧ Keep No w w':=by
  have B0:=b2 w (vb v.1 v.2.1 v.2.2) (vb u.1 u.2.1 u.2.2)
  have X1:=(Bx.made w v).below (b1 _ (vb u.1 u.2.1 u.2.2))
  have X2:=Bx.made (w.alloc (vb v.1 v.2.1 v.2.2)) u
  have eX : (w.alloc (vb v.1 v.2.1 v.2.2)).heap.size = w.heap.size + 1:=by simp
  rw [eX] at X2
  have z0 : ((w.alloc (vb v.1 v.2.1 v.2.2)).alloc (vb u.1 u.2.1 u.2.2)).heap.size = w.heap.size + 2:=by simp
  have R0:=R8.made ((w.alloc (vb v.1 v.2.1 v.2.2)).alloc (vb u.1 u.2.1 u.2.2))
  rw [z0] at R0
  have B1:=bthen B0 B0.size (b1 _ (.cells #[.int .i64 0,.int .i64 0,.string ⟨#[]⟩,.int .i64 0,.int .i64 0,.string ⟨#[]⟩,.bool false,.int .i64 0] 78))
  have X1:=X1.below (b1 _ (.cells #[.int .i64 0,.int .i64 0,.string ⟨#[]⟩,.int .i64 0,.int .i64 0,.string ⟨#[]⟩,.bool false,.int .i64 0] 78))
  have X2:=X2.below (b1 _ (.cells #[.int .i64 0,.int .i64 0,.string ⟨#[]⟩,.int .i64 0,.int .i64 0,.string ⟨#[]⟩,.bool false,.int .i64 0] 78))
  obtain ⟨W0,hW0⟩ : ∃ W0,((w.alloc (vb v.1 v.2.1 v.2.2)).alloc (vb u.1 u.2.1 u.2.2)).alloc (.cells #[.int .i64 0,.int .i64 0,.string ⟨#[]⟩,.int .i64 0,.int .i64 0,.string ⟨#[]⟩,.bool false,.int .i64 0] 78) = W0:=⟨_,rfl⟩
  rw [hW0] at R0 B1 X1 X2
  have hs0:=h.below B1
  have hlt:=h.lt
  have a4 : W0.cell? ⟨B,4,none⟩ = some (.int .i64 d.1.ak):=hs0.cell (j:=4) rfl
  have f4:=hs0.free 4
  have kB : Keep (fun g=>g ≠ B) W0 (W0.setCell ⟨B,4,none⟩ (.int .i64 k)):=(Keep.refl _ W0).set (p:=⟨B,4,none⟩) (fun q=>q rfl) _
  have bB:=blk_set (j:=4) hs0.blk (.int .i64 k)
  obtain ⟨W1,hW1⟩ : ∃ W1,W0.setCell ⟨B,4,none⟩ (.int .i64 k) = W1:=⟨_,rfl⟩
  rw [hW1] at bB kB
  have Y1:=X1.kept kB (by show w.heap.size ≠ B;omega)
  have Y2:=X2.kept kB (by show w.heap.size + 1 ≠ B;omega)
  have R1:=R0.kept kB (by show w.heap.size + 2 ≠ B;omega)
  have R2:=R1.set (askT v u)
  have k8 : Keep (fun g=>g ≠ w.heap.size + 2) W1 (set8 W1 (w.heap.size + 2) (askT v u)):=(Keep.refl _ W1).set8 (fun q=>q rfl) _
  have kA : Keep (fun g=>g ≠ B ∧ g < w.heap.size) w (set8 W1 (w.heap.size + 2) (askT v u)):=((Keep.of B1).trans (kB.sub (fun g q=>q.1))).trans (k8.sub (fun g q=>by have:=q.2;show g ≠ w.heap.size + 2;omega))
  have bF : (set8 W1 (w.heap.size + 2) (askT v u)).heap[B]? = some (.cells (scl T wv { d.1 with ak:=k }) 73 (0,0)):=by
    have hB1 : B < W1.heap.size:=(Array.getElem?_eq_some_iff.1 bB).1
    rw [k8.block B hB1 (by show B ≠ w.heap.size + 2;omega),bB]
    rfl
  have HZ : Hid (_ ∧ _):=h.to kA { d.1 with ak:=k } bF rfl
  have y0:=Y1.c0
  have y1:=Y1.c1
  have y2:=Y1.c2
  have u0:=Y2.c0
  have u1:=Y2.c1
  have u2:=Y2.c2
  have HR : Hid (R8 (set8 W1 (w.heap.size + 2) (askT v u)) (w.heap.size + 2) (askT v u)):=R2
  obtain ⟨W2,hW2⟩ : ∃ W2,set8 W1 (w.heap.size + 2) (askT v u) = W2:=⟨_,rfl⟩
  rw [hW2] at HZ HR
  unfold set8 askT at hW2
  have e0 : W1.cell? ⟨w.heap.size + 2,0,none⟩ = some (.int .i64 0):=R1.cell (j:=0) rfl
  have e1 : W1.cell? ⟨w.heap.size + 2,1,none⟩ = some (.int .i64 0):=R1.cell (j:=1) rfl
  have e2 : W1.cell? ⟨w.heap.size + 2,2,none⟩ = some (.string ⟨#[]⟩):=R1.cell (j:=2) rfl
  have e3 : W1.cell? ⟨w.heap.size + 2,3,none⟩ = some (.int .i64 0):=R1.cell (j:=3) rfl
  have e4 : W1.cell? ⟨w.heap.size + 2,4,none⟩ = some (.int .i64 0):=R1.cell (j:=4) rfl
  have e5 : W1.cell? ⟨w.heap.size + 2,5,none⟩ = some (.string ⟨#[]⟩):=R1.cell (j:=5) rfl
  have e6 : W1.cell? ⟨w.heap.size + 2,6,none⟩ = some (.bool false):=R1.cell (j:=6) rfl
  have e7 : W1.cell? ⟨w.heap.size + 2,7,none⟩ = some (.int .i64 0):=R1.cell (j:=7) rfl
  have ef:=fun j=>R1.free j
  unfold vb at hW0
  unfold vv vl
  unfold askD
  clear B0 B1 X1 X2 Y1 Y2 R0 R1 R2 hs0 kA kB k8 bB bF z0 eX hlt h
  go_enter Tryz.func101,Tryz.ntmps101
  go_wp2
  have r0 : W2.cell? ⟨w.heap.size + 1 + 1,0,none⟩ = some (.int .i64 v.1):=HR.out.cell (j:=0) rfl
  have r1 : W2.cell? ⟨w.heap.size + 1 + 1,1,none⟩ = some (.int .i64 v.2.1):=HR.out.cell (j:=1) rfl
  have r2 : W2.cell? ⟨w.heap.size + 1 + 1,2,none⟩ = some (.string v.2.2):=HR.out.cell (j:=2) rfl
  have r3 : W2.cell? ⟨w.heap.size + 1 + 1,3,none⟩ = some (.int .i64 u.1):=HR.out.cell (j:=3) rfl
  have r4 : W2.cell? ⟨w.heap.size + 1 + 1,4,none⟩ = some (.int .i64 u.2.1):=HR.out.cell (j:=4) rfl
  have r5 : W2.cell? ⟨w.heap.size + 1 + 1,5,none⟩ = some (.string u.2.2):=HR.out.cell (j:=5) rfl
  have r6 : W2.cell? ⟨w.heap.size + 1 + 1,6,none⟩ = some (.bool true):=HR.out.cell (j:=6) rfl
  have r7 : W2.cell? ⟨w.heap.size + 1 + 1,7,none⟩ = some (.int .i64 0):=HR.out.cell (j:=7) rfl
  exact bodyPost_ret (v:=tolV (askT v u)) (by simp [results,Tryz.results101,go_sem,r0,r1,r2,r3,r4,r5,r6,r7,tolV,askT]) rfl ⟨rfl,HZ.out.1,HZ.out.2⟩
end Go.Proofs.YtkmopcanaalemabGreat


namespace Go.Proofs.YtkmopcanaalemabGreat
open Go.RowKit
def setE (w : World) (B T : Nat) (e : Int) : World:=((((((((((((((((((w.setCell ⟨B,0,none⟩ (.pointer (some ⟨T,0,none⟩))).setCell ⟨B,1,none⟩ (.int .i64 0)).setCell ⟨B,2,none⟩ (.int .i64 0)).setCell ⟨B,3,none⟩ (.slice none 0 0)).setCell ⟨B,4,none⟩ (.int .i64 6)).setCell ⟨B,5,none⟩ (.int .i64 0)).setCell ⟨B,6,none⟩ (.int .i64 0)).setCell ⟨B,7,none⟩ (.int .i64 0)).setCell ⟨B,8,none⟩ (.int .i64 0)).setCell ⟨B,9,none⟩ (.int .i64 0)).setCell ⟨B,10,none⟩ (.string ⟨#[]⟩)).setCell ⟨B,11,none⟩ (.int .i64 0)).setCell ⟨B,12,none⟩ (.int .i64 0)).setCell ⟨B,13,none⟩ (.string ⟨#[]⟩)).setCell ⟨B,14,none⟩ (.int .i64 0)).setCell ⟨B,15,none⟩ (.int .i64 0)).setCell ⟨B,16,none⟩ (.string ⟨#[]⟩)).setCell ⟨B,17,none⟩ (.int .i64 e))
theorem setE_blk {w : World} {B T : Nat} {wv : Value} {s : SS} (h : w.heap[B]? = some (.cells (scl T wv s) 73 (0,0))) (e : Int) : (setE w B T e).heap[B]? = some (.cells (scl T (.slice none 0 0) (endS e)) 73 (0,0)):=by
  have h0:=blk_set (j:=0) h (.pointer (some ⟨T,0,none⟩))
  have h1:=blk_set (j:=1) h0 (.int .i64 0)
  have h2:=blk_set (j:=2) h1 (.int .i64 0)
  have h3:=blk_set (j:=3) h2 (.slice none 0 0)
  have h4:=blk_set (j:=4) h3 (.int .i64 6)
  have h5:=blk_set (j:=5) h4 (.int .i64 0)
  have h6:=blk_set (j:=6) h5 (.int .i64 0)
  have h7:=blk_set (j:=7) h6 (.int .i64 0)
  have h8:=blk_set (j:=8) h7 (.int .i64 0)
  have h9:=blk_set (j:=9) h8 (.int .i64 0)
  have h10:=blk_set (j:=10) h9 (.string ⟨#[]⟩)
  have h11:=blk_set (j:=11) h10 (.int .i64 0)
  have h12:=blk_set (j:=12) h11 (.int .i64 0)
  have h13:=blk_set (j:=13) h12 (.string ⟨#[]⟩)
  have h14:=blk_set (j:=14) h13 (.int .i64 0)
  have h15:=blk_set (j:=15) h14 (.int .i64 0)
  have h16:=blk_set (j:=16) h15 (.string ⟨#[]⟩)
  have h17:=blk_set (j:=17) h16 (.int .i64 e)
  exact h17.trans (by simp [scl,endS,nil])
theorem setE_keep (w : World) (B T : Nat) (e : Int) (P : Nat → Prop) : Keep (fun g=>g ≠ B ∧ P g) w (setE w B T e):=(((((((((((((((((((Keep.refl _ w).set (p:=⟨B,0,none⟩) (fun q=>q.1 rfl) _).set (p:=⟨B,1,none⟩) (fun q=>q.1 rfl) _).set (p:=⟨B,2,none⟩) (fun q=>q.1 rfl) _).set (p:=⟨B,3,none⟩) (fun q=>q.1 rfl) _).set (p:=⟨B,4,none⟩) (fun q=>q.1 rfl) _).set (p:=⟨B,5,none⟩) (fun q=>q.1 rfl) _).set (p:=⟨B,6,none⟩) (fun q=>q.1 rfl) _).set (p:=⟨B,7,none⟩) (fun q=>q.1 rfl) _).set (p:=⟨B,8,none⟩) (fun q=>q.1 rfl) _).set (p:=⟨B,9,none⟩) (fun q=>q.1 rfl) _).set (p:=⟨B,10,none⟩) (fun q=>q.1 rfl) _).set (p:=⟨B,11,none⟩) (fun q=>q.1 rfl) _).set (p:=⟨B,12,none⟩) (fun q=>q.1 rfl) _).set (p:=⟨B,13,none⟩) (fun q=>q.1 rfl) _).set (p:=⟨B,14,none⟩) (fun q=>q.1 rfl) _).set (p:=⟨B,15,none⟩) (fun q=>q.1 rfl) _).set (p:=⟨B,16,none⟩) (fun q=>q.1 rfl) _).set (p:=⟨B,17,none⟩) (fun q=>q.1 rfl) _)
theorem So.ends {No : Nat → Prop} {w W : World} {B : Nat} {wv : Value} {T A b a S hb c : Nat} {d : SD} (h : So No w B wv T A b a S hb c d) (k : Keep (fun g=>g ≠ B ∧ g < w.heap.size) w W) (e : Int) (hb' : W.heap[B]? = some (.cells (scl T (.slice none 0 0) (endS e)) 73 (0,0))) : So No W B (.slice none 0 0) T A b a S hb c (endD d e) ∧ Keep No w W:=by
  refine ⟨⟨hb',World.ownsRow_nil _ _ _ _,?_,h.nB,fun g q=>by cases q⟩,⟨k.os,k.tape,k.output,k.size,fun g hg q=>k.block g hg ⟨fun e=>h.nB (e ▸ q),hg⟩⟩⟩
  exact (h.tt.frame2 k.os k.tape k.output k.size (fun g hg hn=>k.block g hg ⟨fun e=>hn (.inr (.inl e)),hg⟩)).sub (fun g q=>by
    rcases q with q | q | q
    · exact .inl (.inl q)
    · exact .inl (.inr (.inl q))
    · cases q)
set_option maxRecDepth 20000 in
set_option maxHeartbeats 4000000 in
theorem end_any {No : Nat → Prop} {w : World} {B : Nat} {wv : Value} {T A b a S hb c : Nat} {d : SD} (h : So No w B wv T A b a S hb c d) (e : Int) :
    Calls Tryz.prog 98 #[.pointer (some ⟨B,0,none⟩),.int .i64 e] w fun en w'=>en = .returned (tolV (endT e)) ∧ So No w' B (.slice none 0 0) T A b a S hb c (endD d e) ∧ Keep No w w':=by
  have B1:=b1 w (.cells #[.int .i64 0,.int .i64 0,.string ⟨#[]⟩,.int .i64 0,.int .i64 0,.string ⟨#[]⟩,.bool false,.int .i64 0] 78)
  have R0:=R8.made w
  obtain ⟨W0,hW0⟩ : ∃ W0,w.alloc (.cells #[.int .i64 0,.int .i64 0,.string ⟨#[]⟩,.int .i64 0,.int .i64 0,.string ⟨#[]⟩,.bool false,.int .i64 0] 78) = W0:=⟨_,rfl⟩
  rw [hW0] at R0 B1
  have hs0:=h.below B1
  have hlt:=h.lt
  have bB:=setE_blk hs0.blk e
  have kB:=setE_keep W0 B T e (fun _=>True)
  have a0:=hs0.cell (j:=0) (v:=(.pointer (some ⟨T,0,none⟩))) rfl
  have a1:=hs0.cell (j:=1) (v:=(.int .i64 d.1.lo)) rfl
  have a2:=hs0.cell (j:=2) (v:=(.int .i64 d.1.up)) rfl
  have a3:=hs0.cell (j:=3) (v:=wv) rfl
  have a4:=hs0.cell (j:=4) (v:=(.int .i64 d.1.ak)) rfl
  have a5:=hs0.cell (j:=5) (v:=(.int .i64 d.1.p)) rfl
  have a6:=hs0.cell (j:=6) (v:=(.int .i64 d.1.i)) rfl
  have a7:=hs0.cell (j:=7) (v:=(.int .i64 d.1.j)) rfl
  have a8:=hs0.cell (j:=8) (v:=(.int .i64 d.1.x.1)) rfl
  have a9:=hs0.cell (j:=9) (v:=(.int .i64 d.1.x.2.1)) rfl
  have a10:=hs0.cell (j:=10) (v:=(.string d.1.x.2.2)) rfl
  have a11:=hs0.cell (j:=11) (v:=(.int .i64 d.1.y.1)) rfl
  have a12:=hs0.cell (j:=12) (v:=(.int .i64 d.1.y.2.1)) rfl
  have a13:=hs0.cell (j:=13) (v:=(.string d.1.y.2.2)) rfl
  have a14:=hs0.cell (j:=14) (v:=(.int .i64 d.1.pv.1)) rfl
  have a15:=hs0.cell (j:=15) (v:=(.int .i64 d.1.pv.2.1)) rfl
  have a16:=hs0.cell (j:=16) (v:=(.string d.1.pv.2.2)) rfl
  have a17:=hs0.cell (j:=17) (v:=(.int .i64 d.1.er)) rfl
  have hfr:=hs0.free
  obtain ⟨W1,hW1⟩ : ∃ W1,setE W0 B T e = W1:=⟨_,rfl⟩
  rw [hW1] at bB kB
  have R1:=R0.kept kB ⟨by omega,trivial⟩
  have R2:=R1.set (endT e)
  have k8 : Keep (fun g=>g ≠ w.heap.size) W1 (set8 W1 w.heap.size (endT e)):=(Keep.refl _ W1).set8 (fun q=>q rfl) _
  have kA : Keep (fun g=>g ≠ B ∧ g < w.heap.size) w (set8 W1 w.heap.size (endT e)):=((Keep.of B1).trans (kB.sub (fun g q=>⟨q.1,trivial⟩))).trans (k8.sub (fun g q=>by have:=q.2;show g ≠ w.heap.size;omega))
  have bF : (set8 W1 w.heap.size (endT e)).heap[B]? = some (.cells (scl T (.slice none 0 0) (endS e)) 73 (0,0)):=by
    have hB1 : B < W1.heap.size:=(Array.getElem?_eq_some_iff.1 bB).1
    rw [k8.block B hB1 (by show B ≠ w.heap.size;omega),bB]
  have HZ : Hid (_ ∧ _):=h.ends kA e bF
  have HR : Hid (R8 (set8 W1 w.heap.size (endT e)) w.heap.size (endT e)):=R2
  obtain ⟨W2,hW2⟩ : ∃ W2,set8 W1 w.heap.size (endT e) = W2:=⟨_,rfl⟩
  rw [hW2] at HZ HR
  unfold set8 endT nil at hW2
  unfold setE at hW1
  have e0 : W1.cell? ⟨w.heap.size,0,none⟩ = some (.int .i64 0):=R1.cell (j:=0) rfl
  have e1 : W1.cell? ⟨w.heap.size,1,none⟩ = some (.int .i64 0):=R1.cell (j:=1) rfl
  have e2 : W1.cell? ⟨w.heap.size,2,none⟩ = some (.string ⟨#[]⟩):=R1.cell (j:=2) rfl
  have e3 : W1.cell? ⟨w.heap.size,3,none⟩ = some (.int .i64 0):=R1.cell (j:=3) rfl
  have e4 : W1.cell? ⟨w.heap.size,4,none⟩ = some (.int .i64 0):=R1.cell (j:=4) rfl
  have e5 : W1.cell? ⟨w.heap.size,5,none⟩ = some (.string ⟨#[]⟩):=R1.cell (j:=5) rfl
  have e6 : W1.cell? ⟨w.heap.size,6,none⟩ = some (.bool false):=R1.cell (j:=6) rfl
  have e7 : W1.cell? ⟨w.heap.size,7,none⟩ = some (.int .i64 0):=R1.cell (j:=7) rfl
  have ef:=fun j=>R1.free j
  clear B1 R0 R1 R2 hs0 kA kB k8 bB bF hlt h
  go_enter Tryz.func98,Tryz.ntmps98
  go_wp2
  have r0 : W2.cell? ⟨w.heap.size,0,none⟩ = some (.int .i64 0):=HR.out.cell (j:=0) rfl
  have r1 : W2.cell? ⟨w.heap.size,1,none⟩ = some (.int .i64 0):=HR.out.cell (j:=1) rfl
  have r2 : W2.cell? ⟨w.heap.size,2,none⟩ = some (.string ⟨#[]⟩):=HR.out.cell (j:=2) rfl
  have r3 : W2.cell? ⟨w.heap.size,3,none⟩ = some (.int .i64 0):=HR.out.cell (j:=3) rfl
  have r4 : W2.cell? ⟨w.heap.size,4,none⟩ = some (.int .i64 0):=HR.out.cell (j:=4) rfl
  have r5 : W2.cell? ⟨w.heap.size,5,none⟩ = some (.string ⟨#[]⟩):=HR.out.cell (j:=5) rfl
  have r6 : W2.cell? ⟨w.heap.size,6,none⟩ = some (.bool false):=HR.out.cell (j:=6) rfl
  have r7 : W2.cell? ⟨w.heap.size,7,none⟩ = some (.int .i64 e):=HR.out.cell (j:=7) rfl
  exact bodyPost_ret (v:=tolV (endT e)) (by simp [results,Tryz.results98,go_sem,r0,r1,r2,r3,r4,r5,r6,r7,tolV,endT,nil]) rfl ⟨rfl,HZ.out.1,HZ.out.2⟩
end Go.Proofs.YtkmopcanaalemabGreat


namespace Go.Proofs.YtkmopcanaalemabGreat
open Go.RowKit
theorem So.news {No:Nat→Prop} {w W:World} {B:Nat} {wv:Value} {T A b a S hb c:Nat} {d:SD} (h:So No w B wv T A b a S hb c d) (k:Below w.heap.size w W):So (fun g=>No g∨(w.heap.size≤g∧g<W.heap.size)) W B wv T A b a S hb c d:=by
 have hs:=h.below k
 have hl:=h.lt
 refine ⟨hs.blk,hs.row,(h.tt.news k).sub (fun g q=>?_),fun q=>q.elim h.nB (by omega),fun g e q=>q.elim (h.nW g e) (fun z=>by have:=(h.row.lt g e).2;omega)⟩
 rcases q with (q | q) | q | q
 ·exact .inl (.inl q)
 ·exact .inr q
 ·exact .inl (.inr (.inl q))
 ·exact .inl (.inr (.inr q))
theorem So.drew {No:Nat→Prop} {w:World} {B:Nat} {wv:Value} {T A b a S hb c:Nat} {d:SD} (h:So No w B wv T A b a S hb c d):So No w.drew B wv T A b a S hb c d:=h.below (bdrew1 w)
theorem So.out {No No2:Nat→Prop} {w W:World} {B:Nat} {wv:Value} {T A b a S hb c:Nat} {d:SD} (h:So No2 w B wv T A b a S hb c d) (hn:∀g,No g→No2 g) (k:Keep (fun g=>¬No2 g) w W):So No W B wv T A b a S hb c d:=by
 refine ⟨(k.block B h.lt h.nB).trans h.blk,?_,?_,fun q=>h.nB (hn _ q),fun g e q=>h.nW g e (hn _ q)⟩
 ·have hlt:=h.row.lt
  refine ⟨h.row.1,?_⟩
  rcases h.row.2 with h2 | ⟨g,cap,cur,e,h2,h3,r⟩
  ·exact .inl h2
  ·have e':wv.ownBlock=some g:=by rw[e];rfl
   exact .inr ⟨g,cap,cur,e,h2,(k.block g (hlt g e').2 (h.nW g e')).trans h3,r⟩
 ·refine (h.tt.frame2 k.os k.tape k.output k.size (fun g hg q=>k.block g hg (fun z=>q (.inl z)))).sub (fun g q=>.inl ?_)
  rcases q with q | q | q
  ·exact .inl (hn _ q)
  ·exact .inr (.inl q)
  ·exact .inr (.inr q)
def stX (w:World) (B j:Nat) (x:V):World:=((w.setCell ⟨B,j,none⟩ (.int .i64 x.1)).setCell ⟨B,j+1,none⟩ (.int .i64 x.2.1)).setCell ⟨B,j+2,none⟩ (.string x.2.2)
theorem stX_blk {w:World} {B:Nat} {cur:Array Value} {t:TypeId} (h:w.heap[B]?=some (.cells cur t (0,0))) (j:Nat) (x:V):(stX w B j x).heap[B]?=some (.cells (((cur.setIfInBounds j (.int .i64 x.1)).setIfInBounds (j+1) (.int .i64 x.2.1)).setIfInBounds (j+2) (.string x.2.2)) t (0,0)):=blk_set (blk_set (blk_set h _) _) _
theorem stX_keep (w:World) (B j:Nat) (x:V):Keep (fun g=>g≠B) w (stX w B j x):=(((Keep.refl _ w).set (p:=⟨B,j,none⟩) (fun q=>q rfl) _).set (p:=⟨B,j+1,none⟩) (fun q=>q rfl) _).set (p:=⟨B,j+2,none⟩) (fun q=>q rfl) _
set_option maxRecDepth 20000 in
set_option maxHeartbeats 4000000 in
theorem rise_any {No:Nat→Prop} {w:World} {B:Nat} {wv:Value} {T A b a S hb c:Nat} {d:SD} (h:So No w B wv T A b a S hb c d) (hc:c≤900000) (h1:-4611686018427387904≤d.1.i) (h2:d.1.i≤4611686018427387904):
 Calls Tryz.prog 104 #[.pointer (some ⟨B,0,none⟩)] w fun e w'=>e= .returned (tolV (riseR d).2)∧So No w' B wv T A b a S hb (c+1) (riseR d).1∧Keep No w w':=by
 have B1:=b1 w (.cells #[.int .i64 0,.int .i64 0,.string ⟨#[]⟩,.int .i64 0,.int .i64 0,.string ⟨#[]⟩,.bool false,.int .i64 0] 78)
 have R0:=R8.made w
 have z0:(w.alloc (.cells #[.int .i64 0,.int .i64 0,.string ⟨#[]⟩,.int .i64 0,.int .i64 0,.string ⟨#[]⟩,.bool false,.int .i64 0] 78)).heap.size=w.heap.size+1:=by simp
 obtain ⟨W0,hW0⟩:∃W0,w.alloc (.cells #[.int .i64 0,.int .i64 0,.string ⟨#[]⟩,.int .i64 0,.int .i64 0,.string ⟨#[]⟩,.bool false,.int .i64 0] 78)=W0:=⟨_,rfl⟩
 rw[hW0] at R0 B1 z0
 have hlt:=h.lt
 have HNo:Hid ((∀g,No g→g<w.heap.size)∧¬No B):=⟨fun g q=>by
  obtain ⟨vb,hp⟩:=h.tt.hp
  exact hp.nos _ (.inl (.inl q)),h.nB⟩
 have s0:=h.news B1
 obtain ⟨N2,hN2⟩:∃N2,(fun g=>No g∨(w.heap.size≤g∧g<W0.heap.size))=N2:=⟨_,rfl⟩
 have HN:Hid ((∀g,No g→N2 g)∧N2 w.heap.size∧(∀g,N2 g→No g∨w.heap.size≤g)):=by
  subst hN2
  exact ⟨fun g q=>.inl q,.inr ⟨Nat.le_refl _,by omega⟩,fun g q=>q.imp id (fun z=>z.1)⟩
 rw[hN2] at s0
 clear hN2
 have a6:W0.cell? ⟨B,6,none⟩=some (.int .i64 d.1.i):=s0.cell (j:=6) rfl
 have f0:=s0.free
 have k1:Keep (fun g=>g≠B) W0 (W0.setCell ⟨B,6,none⟩ (.int .i64 (d.1.i+1))):=(Keep.refl _ W0).set (p:=⟨B,6,none⟩) (fun q=>q rfl) _
 have s1:=s0.to (k1.sub (fun g q=>q.1)) {d.1 with i:=d.1.i+1} ((blk_set (j:=6) s0.blk (.int .i64 (d.1.i+1))).trans rfl) rfl
 obtain ⟨W1,hW1⟩:∃W1,W0.setCell ⟨B,6,none⟩ (.int .i64 (d.1.i+1))=W1:=⟨_,rfl⟩
 rw[hW1] at k1 s1
 have R1:=R0.kept k1 (by show w.heap.size≠B;omega)
 have a6':W1.cell? ⟨B,6,none⟩=some (.int .i64 (d.1.i+1)):=s1.1.cell (j:=6) rfl
 have CR:=read_any s1.1 hc (d.1.i+1) (by omega) (by omega)
 obtain ⟨x,hx⟩:∃x,rdV ({d.1 with i:=d.1.i+1},d.2) (d.1.i+1)=x:=⟨_,rfl⟩
 rw[hx] at CR
 have HX:Hid (rdV ({d.1 with i:=d.1.i+1},d.2) (d.1.i+1)=x):=hx
 have HR1:Hid (R8 W1 w.heap.size (nil,nil,false,0)):=R1
 have HK:Hid (Keep No w W1):=⟨s1.2.os.trans B1.os,s1.2.tape.trans B1.tape,s1.2.output.trans B1.output,Nat.le_trans B1.size s1.2.size,fun g hg q=>(s1.2.block g (by omega) (HN.out.1 g q)).trans (B1.block g hg)⟩
 have wi:IntKind.i64.wrap (d.1.i+1)=d.1.i+1:=by rw[IntKind.wrap_i64];omega
 unfold vv vl at CR
 clear hx s0 s1 k1 R0 R1 B1 z0 h
 go_enter Tryz.func104,Tryz.ntmps104
 go_wp2_with fail
 refine CR.mono ?_
 rintro e w2 ⟨rfl,s2,k2⟩
 have b8:w2.cell? ⟨B,8,none⟩=some (.int .i64 d.1.x.1):=s2.cell (j:=8) rfl
 have b9:w2.cell? ⟨B,9,none⟩=some (.int .i64 d.1.x.2.1):=s2.cell (j:=9) rfl
 have b10:w2.cell? ⟨B,10,none⟩=some (.string d.1.x.2.2):=s2.cell (j:=10) rfl
 have f2:=s2.free
 have k3:=stX_keep w2 B 8 x
 have s3:=s2.to (k3.sub (fun g q=>q.1)) {d.1 with i:=d.1.i+1,x:=x} ((stX_blk s2.blk 8 x).trans rfl) rfl
 have R2:=(HR1.out.kept k2 (.inl HN.out.2.1)).kept k3 (by show w.heap.size≠B;omega)
 obtain ⟨W3,hW3⟩:∃W3,stX w2 B 8 x=W3:=⟨_,rfl⟩
 rw[hW3] at k3 s3 R2
 unfold stX at hW3
 have CA:=ask_any s3.1.drew 4 x d.1.pv
 have e8:W3.cell? ⟨B,8,none⟩=some (.int .i64 x.1):=s3.1.cell (j:=8) rfl
 have e9:W3.cell? ⟨B,9,none⟩=some (.int .i64 x.2.1):=s3.1.cell (j:=9) rfl
 have e10:W3.cell? ⟨B,10,none⟩=some (.string x.2.2):=s3.1.cell (j:=10) rfl
 have e14:W3.cell? ⟨B,14,none⟩=some (.int .i64 d.1.pv.1):=s3.1.cell (j:=14) rfl
 have e15:W3.cell? ⟨B,15,none⟩=some (.int .i64 d.1.pv.2.1):=s3.1.cell (j:=15) rfl
 have e16:W3.cell? ⟨B,16,none⟩=some (.string d.1.pv.2.2):=s3.1.cell (j:=16) rfl
 have HK3:Hid (Keep No w W3):=(HK.out.trans (k2.sub (fun g q=>.inl (HN.out.1 g q)))).trans (k3.sub (fun g q e=>HNo.out.2 (e▸q)))
 have HR3:Hid (R8 W3 w.heap.size (nil,nil,false,0)):=R2
 have HF:Hid (∀w4,Keep N2 W3.drew w4→So N2 w4 B wv T A b a S hb (c+1) (riseR d).1→R8 w4 w.heap.size (nil,nil,false,0)∧R8 (set8 w4 w.heap.size (riseR d).2) w.heap.size (riseR d).2∧So No (set8 w4 w.heap.size (riseR d).2) B wv T A b a S hb (c+1) (riseR d).1∧Keep No w (set8 w4 w.heap.size (riseR d).2)):=fun w4 k4 s4=>by
  have K4:Keep N2 W3 w4:=((Keep.refl N2 W3).drew).trans k4
  have r4:=HR3.out.kept K4 HN.out.2.1
  refine ⟨r4,r4.set _,s4.out HN.out.1 ((Keep.refl _ w4).set8 (fun q=>q HN.out.2.1) _),?_⟩
  exact (HK3.out.trans (K4.sub HN.out.1)).set8 (fun q=>by have:=HNo.out.1 _ q;omega) _
 have hT:(riseR d).2=askT x d.1.pv:=by
  unfold riseR
  simp only[HX.out]
  rfl
 have hD:(riseR d).1=askD ({d.1 with i:=d.1.i+1,x:=x},(rdD ({d.1 with i:=d.1.i+1},d.2) (d.1.i+1)).2) 4:=by
  unfold riseR
  simp only[HX.out]
  rfl
 rw[←hD] at CA
 unfold vv vl at CA
 clear hD s2 s3 k2 k3 R2 CR HR1 HR3 HK HK3 a6 a6' f0 HX
 go_wp2_with fail
 refine wp_tail 9 (by kernel_rfl) (by kernel_rfl) ?_
 simp only[List.take_succ_cons,List.take_zero,List.drop_succ_cons,List.drop_zero]
 repeat still_step
 refine wpStill_nil ?_
 go_wp2_with fail
 refine CA.mono ?_
 rintro e w4 ⟨rfl,s4,k4⟩
 obtain ⟨r4,r5,s5,k5⟩:=HF.out w4 k4 s4
 rw[hT] at r5 s5 k5
 have HZ:Hid (_∧_∧_):=⟨r5,s5,k5⟩
 obtain ⟨W5,hW5⟩:∃W5,set8 w4 w.heap.size (askT x d.1.pv)=W5:=⟨_,rfl⟩
 rw[hW5] at HZ
 unfold set8 askT at hW5
 unfold tolV askT
 have n0:w4.cell? ⟨w.heap.size,0,none⟩=some (.int .i64 0):=r4.cell (j:=0) rfl
 have n1:w4.cell? ⟨w.heap.size,1,none⟩=some (.int .i64 0):=r4.cell (j:=1) rfl
 have n2:w4.cell? ⟨w.heap.size,2,none⟩=some (.string ⟨#[]⟩):=r4.cell (j:=2) rfl
 have n3:w4.cell? ⟨w.heap.size,3,none⟩=some (.int .i64 0):=r4.cell (j:=3) rfl
 have n4:w4.cell? ⟨w.heap.size,4,none⟩=some (.int .i64 0):=r4.cell (j:=4) rfl
 have n5:w4.cell? ⟨w.heap.size,5,none⟩=some (.string ⟨#[]⟩):=r4.cell (j:=5) rfl
 have n6:w4.cell? ⟨w.heap.size,6,none⟩=some (.bool false):=r4.cell (j:=6) rfl
 have n7:w4.cell? ⟨w.heap.size,7,none⟩=some (.int .i64 0):=r4.cell (j:=7) rfl
 have nf:=fun j=>r4.free j
 clear r4 r5 s5 k5 s4 k4 HF CA e8 e9 e10 e14 e15 e16
 go_wp2
 obtain ⟨q1,q2,q3⟩:=HZ.out
 have r0:W5.cell? ⟨w.heap.size,0,none⟩=some (.int .i64 x.1):=q1.cell (j:=0) rfl
 have r1:W5.cell? ⟨w.heap.size,1,none⟩=some (.int .i64 x.2.1):=q1.cell (j:=1) rfl
 have r2:W5.cell? ⟨w.heap.size,2,none⟩=some (.string x.2.2):=q1.cell (j:=2) rfl
 have r3:W5.cell? ⟨w.heap.size,3,none⟩=some (.int .i64 d.1.pv.1):=q1.cell (j:=3) rfl
 have r4:W5.cell? ⟨w.heap.size,4,none⟩=some (.int .i64 d.1.pv.2.1):=q1.cell (j:=4) rfl
 have r5:W5.cell? ⟨w.heap.size,5,none⟩=some (.string d.1.pv.2.2):=q1.cell (j:=5) rfl
 have r6:W5.cell? ⟨w.heap.size,6,none⟩=some (.bool true):=q1.cell (j:=6) rfl
 have r7:W5.cell? ⟨w.heap.size,7,none⟩=some (.int .i64 0):=q1.cell (j:=7) rfl
 exact bodyPost_ret (v:=tolV (askT x d.1.pv)) (by simp[results,Tryz.results104,go_sem,r0,r1,r2,r3,r4,r5,r6,r7,tolV,askT]) rfl ⟨by rw[hT],q2,q3⟩
end Go.Proofs.YtkmopcanaalemabGreat

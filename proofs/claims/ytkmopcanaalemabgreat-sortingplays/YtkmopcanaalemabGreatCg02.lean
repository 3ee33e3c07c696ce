import Derived.Test.YtkmopcanaalemabGreatCg01
import Derived.Laws.OwnMore
import Derived.Test.YtkmopcanaalemabGreatCg00
import Derived.Test.YtkmopcanaalemabGreatProg
import Derived.WalkKit
import Derived.WalkSpells
import Derived.Below
import Derived.MapKept
import Derived.RegionTactic
import Derived.Laws.BitsAllLaws
import Derived.Laws.MakeOwn
import Derived.OwnWalk
import Derived.Tactics
import Derived.Tactics2
import Derived.LoopTactic
import Derived.Shelf.Strconv.Itoa0
import Derived.Shelf.Sort.Plain
import Derived.Ground.Names2Prog
import Derived.Shelf.Slices.Clone
import Derived.Shelf.Slices.In.SortNone
namespace Go.Proofs.YtkmopcanaalemabGreat
open Go.RowKit
set_option maxRecDepth 20000 in
set_option maxHeartbeats 2000000 in
theorem find_bad {p : Value} {z : Int} (k : V) (w : World) (hS0 : ∀ W,Below w.heap.size w W → Calls Tryz.prog 73 #[p] W fun e w'=>e = .returned (.int .i64 z) ∧ w' = W) (hk0 : -9223372036854775808 ≤ k.2.1) (hk1 : k.2.1 ≤ 9223372036854775807) (hE : mnE k.1 k.2.1 k.2.2 z ≠ 0) :
    Calls Tryz.prog 81 #[p,vl k.1 k.2.1 k.2.2] w fun e w'=>e = .returned (.tuple #[.int .i64 (-1),.int .i64 0]) ∧ Below w.heap.size w w':=by
  have CM:=fun w=>main_any k.1 k.2.1 k.2.2 z w hk0 hk1
  obtain ⟨X,F,F1,F2⟩:=class_of (w.alloc (vb k.1 k.2.1 k.2.2))
  have HB : Hid (∀ x,Below w.heap.size w (F x)):=fun x=>bthen (b1 w _) (by simp) (F1 x)
  have e0 : ∀ x,(F x).cell? ⟨w.heap.size,0,none⟩ = some (.int .i64 k.1):=fun x=>by rw [(F1 x).cell (by simp)];simp [go_sem]
  have e1 : ∀ x,(F x).cell? ⟨w.heap.size,1,none⟩ = some (.int .i64 k.2.1):=fun x=>by rw [(F1 x).cell (by simp)];simp [go_sem]
  have e2 : ∀ x,(F x).cell? ⟨w.heap.size,2,none⟩ = some (.string k.2.2):=fun x=>by rw [(F1 x).cell (by simp)];simp [go_sem]
  have hS : ∀ x,Calls Tryz.prog 73 #[p] (F x) fun e w''=>e = .returned (.int .i64 z) ∧ ∃ y,w'' = F y:=fun x =>
    (hS0 (F x) (HB.out x)).mono fun e w' ⟨he,hw⟩=>⟨he,x,hw⟩
  have hM : ∀ x,Calls Tryz.prog 111 #[vl k.1 k.2.1 k.2.2,.int .i64 z] (F x) fun e w''=>e = .returned (.tuple #[.int .i64 (mnP k.1 k.2.1 k.2.2 z),.int .i64 (mnE k.1 k.2.1 k.2.2 z)]) ∧ ∃ y,w'' = F y:=fun x =>
    (CM (F x)).mono fun e w' ⟨he,hw⟩=>⟨he,F2 w' (hw ▸ bthen (F1 x) (F1 x).size (b2 _ _ _))⟩
  have HC : Hid (∃ x,(w.alloc (vb k.1 k.2.1 k.2.2)).drew = F x):=F2 _ (Below.refl _ _).drew
  clear CM hS0 F1 F2
  unfold vl vb at *
  generalize mnE k.1 k.2.1 k.2.2 z = q at *
  generalize mnP k.1 k.2.1 k.2.2 z = r at *
  go_enter Tryz.func81,Tryz.ntmps81
  go_wp2_with fail
  haveI : Nonempty X:=HC.out.elim fun x _=>⟨x⟩
  refine wp_class (F:=F) (by kernel_rfl) (by kernel_rfl) HC.out ?_
  repeat (go_big_quiet_step (first | exact hS _ | exact hM _))
  refine wpQuiet_nil ?_
  intro _ hw'
  obtain ⟨x,rfl⟩:=hw'
  go_wp2_with fail
  go_ret2
  exact ⟨rfl,HB.out x⟩
set_option maxRecDepth 20000 in
set_option maxHeartbeats 2000000 in
theorem insert_bad {p : Value} {z : Int} (k v : V) (w : World) (hS0 : ∀ W,Below w.heap.size w W → Calls Tryz.prog 73 #[p] W fun e w'=>e = .returned (.int .i64 z) ∧ w' = W) (hk0 : -9223372036854775808 ≤ k.2.1) (hk1 : k.2.1 ≤ 9223372036854775807) (hE : mnE k.1 k.2.1 k.2.2 z ≠ 0) :
    Calls Tryz.prog 113 #[p,vl k.1 k.2.1 k.2.2,vl v.1 v.2.1 v.2.2] w fun e w'=>e = .returned (.int .i64 12) ∧ Below w.heap.size w w':=by
  have CM:=fun w=>main_any k.1 k.2.1 k.2.2 z w hk0 hk1
  obtain ⟨X,F,F1,F2⟩:=class_of ((w.alloc (vb k.1 k.2.1 k.2.2)).alloc (vb v.1 v.2.1 v.2.2))
  have HB : Hid (∀ x,Below w.heap.size w (F x)):=fun x=>bthen (b2 w _ _) (by simp;omega) (F1 x)
  have X1 : Bx ((w.alloc (vb k.1 k.2.1 k.2.2)).alloc (vb v.1 v.2.1 v.2.2)) w.heap.size k:=(Bx.made w k).below (b1 _ _)
  have e0:=fun x=>(X1.below (F1 x)).c0
  have e1:=fun x=>(X1.below (F1 x)).c1
  have e2:=fun x=>(X1.below (F1 x)).c2
  have hS : ∀ x,Calls Tryz.prog 73 #[p] (F x) fun e w''=>e = .returned (.int .i64 z) ∧ ∃ y,w'' = F y:=fun x =>
    (hS0 (F x) (HB.out x)).mono fun e w' ⟨he,hw⟩=>⟨he,x,hw⟩
  have hM : ∀ x,Calls Tryz.prog 111 #[vl k.1 k.2.1 k.2.2,.int .i64 z] (F x) fun e w''=>e = .returned (.tuple #[.int .i64 (mnP k.1 k.2.1 k.2.2 z),.int .i64 (mnE k.1 k.2.1 k.2.2 z)]) ∧ ∃ y,w'' = F y:=fun x =>
    (CM (F x)).mono fun e w' ⟨he,hw⟩=>⟨he,F2 w' (hw ▸ bthen (F1 x) (F1 x).size (b2 _ _ _))⟩
  have HC : Hid (∃ x,((w.alloc (vb k.1 k.2.1 k.2.2)).alloc (vb v.1 v.2.1 v.2.2)).drew = F x):=F2 _ (Below.refl _ _).drew
  clear CM hS0 F1 F2 X1
  unfold vl vb at *
  generalize mnE k.1 k.2.1 k.2.2 z = q at *
  generalize mnP k.1 k.2.1 k.2.2 z = r at *
  go_enter Tryz.func113,Tryz.ntmps113
  go_wp2_with fail
  haveI : Nonempty X:=HC.out.elim fun x _=>⟨x⟩
  refine wp_class (F:=F) (by kernel_rfl) (by kernel_rfl) HC.out ?_
  repeat (go_big_quiet_step (first | exact hS _ | exact hM _))
  refine wpQuiet_nil ?_
  intro _ hw'
  obtain ⟨x,rfl⟩:=hw'
  go_wp2_with fail
  go_ret
  exact ⟨rfl,HB.out x⟩
def fm (v : V) : Bool:=inF v.1 v.2.1 v.2.2
def put (z : Nat) (g : G) (k v : V) : G × Nat × Int :=
  if fm k = true ∧ fm v = true then
    if k.1 = 0 then (g,0,9)
    else if z = 0 then (g,0,if v.1 = 0 then 0 else 12)
    else match find (pl z) g k with
      | (some i,n)=>(setX g i v,n,0)
      | (none,n)=>if v.1 = 0 then (g,n,0) else ((ins (pl z) g k v).1,n,full (ins (pl z) g k v).2)
  else (g,0,2)
def Rng (v : V) : Prop:=-9223372036854775808 ≤ v.2.1 ∧ v.2.1 ≤ 9223372036854775807
def Rt (z : Nat) : Prop:=z = 0 ∨ pw z = true
theorem Rt.le {z : Nat} (h : Rt z) : z ≤ 65536:=by
  rcases h with h | h
  · omega
  · have:=(pw_bounds z h).2;omega
theorem pw0 : pw (0 : Int) = false:=by decide
theorem mnE_bad {k : V} {z : Int} (h : pw z = false ∨ fm k = false ∨ k.1 = 0) : mnE k.1 k.2.1 k.2.2 z ≠ 0:=by
  unfold mnE
  unfold fm at h
  rcases h with h | h | h
  · rw [h];split <;> simp
  · rw [h];simp
  · rw [if_pos h];split
    · split <;> simp
    · simp
theorem Pt.sizes {w : World} {b a z : Nat} {g : G} (h : Pt w b a z g) : ∀ W,Below w.heap.size w W → Calls Tryz.prog 73 #[pp b] W fun e w'=>e = .returned (.int .i64 (z : Nat)) ∧ w' = W:=fun W hW=>size_any W (h.below hW)
theorem chk_of (v : V) : chk v.1 v.2.1 v.2.2 = if fm v = true then 0 else 2:=rfl
set_option maxRecDepth 20000 in
set_option maxHeartbeats 2000000 in
theorem put_form {p : Value} (k v : V) (w : World) (hf : ¬ (fm k = true ∧ fm v = true)) :
    Calls Tryz.prog 89 #[p,vl k.1 k.2.1 k.2.2,vl v.1 v.2.1 v.2.2] w fun e w'=>e = .returned (.tuple #[.int .i64 0,.int .i64 2]) ∧ Below w.heap.size w w':=by
  have C1:=check_any k.1 k.2.1 k.2.2
  have C2:=check_any v.1 v.2.1 v.2.2
  rw [chk_of] at C1 C2
  have B2:=fun o=>bthen (b2 w (vb k.1 k.2.1 k.2.2) (vb v.1 v.2.1 v.2.2)) (by simp;omega) (b1 _ o)
  have B3:=fun o o'=>bthen (B2 o) (by simp;omega) (b1 _ o')
  by_cases h1 : fm k = true
  · have h2 : fm v = false:=by cases h0 : fm v;rfl;exact absurd ⟨h1,h0⟩ hf
    rw [if_pos h1] at C1
    rw [h2,if_neg (by simp)] at C2
    have B4:=B3 (vb k.1 k.2.1 k.2.2) (vb v.1 v.2.1 v.2.2)
    clear hf h1 h2 B2 B3
    unfold vl vb at *
    go_enter Tryz.func89,Tryz.ntmps89
    go_wp2_with fail
    refine (C1 _).mono ?_;rintro e w' ⟨rfl,rfl⟩
    go_wp2_with fail
    refine (C2 _).mono ?_;rintro e w' ⟨rfl,rfl⟩
    go_wp2_with fail
    go_ret2
    exact ⟨rfl,B4⟩
  · rw [if_neg h1] at C1
    have B4:=B2 (vb k.1 k.2.1 k.2.2)
    clear hf h1 B2 B3 C2
    unfold vl vb at *
    go_enter Tryz.func89,Tryz.ntmps89
    go_wp2_with fail
    refine (C1 _).mono ?_;rintro e w' ⟨rfl,rfl⟩
    go_wp2_with fail
    go_ret2
    exact ⟨rfl,B4⟩
set_option maxRecDepth 20000 in
set_option maxHeartbeats 2000000 in
theorem put_key {p : Value} (k v : V) (w : World) (hf : fm k = true ∧ fm v = true) (hk : k.1 = 0) :
    Calls Tryz.prog 89 #[p,vl k.1 k.2.1 k.2.2,vl v.1 v.2.1 v.2.2] w fun e w'=>e = .returned (.tuple #[.int .i64 0,.int .i64 9]) ∧ Below w.heap.size w w':=by
  have C1:=check_any k.1 k.2.1 k.2.2
  have C2:=check_any v.1 v.2.1 v.2.2
  rw [chk_of,if_pos hf.1] at C1
  rw [chk_of,if_pos hf.2] at C2
  have B4:=bthen (bthen (b2 w (vb k.1 k.2.1 k.2.2) (vb v.1 v.2.1 v.2.2)) (by simp;omega) (b1 _ (vb k.1 k.2.1 k.2.2))) (by simp;omega) (b1 _ (vb v.1 v.2.1 v.2.2))
  clear hf
  unfold vl vb at *
  rw [hk] at *
  go_enter Tryz.func89,Tryz.ntmps89
  go_wp2_with fail
  refine (C1 _).mono ?_;rintro e w' ⟨rfl,rfl⟩
  go_wp2_with fail
  refine (C2 _).mono ?_;rintro e w' ⟨rfl,rfl⟩
  go_wp2_with fail
  go_ret2
  exact ⟨rfl,B4⟩
end Go.Proofs.YtkmopcanaalemabGreat


namespace Go.Proofs.YtkmopcanaalemabGreat
open Go.RowKit
abbrev putW (w:World) (k v:V):World:=(((w.alloc (vb k.1 k.2.1 k.2.2)).alloc (vb v.1 v.2.1 v.2.2)).alloc (vb k.1 k.2.1 k.2.2)).alloc (vb v.1 v.2.1 v.2.2)
theorem putW_below (w:World) (k v:V):Below w.heap.size w (putW w k v):=bthen (bthen (b2 w (vb k.1 k.2.1 k.2.2) (vb v.1 v.2.1 v.2.2)) (by simp;omega) (b1 _ (vb k.1 k.2.1 k.2.2))) (by simp;omega) (b1 _ (vb v.1 v.2.1 v.2.2))
theorem putW_k (w:World) (k v:V):Bx (putW w k v) w.heap.size k:=(((Bx.made w k).below (b1 _ _)).below (b1 _ _)).below (b1 _ _)
theorem putW_v (w:World) (k v:V):Bx (putW w k v) (w.heap.size+1) v:=by
 have h0:=((Bx.made (w.alloc (vb k.1 k.2.1 k.2.2)) v).below (b1 _ (vb k.1 k.2.1 k.2.2))).below (b1 _ (vb v.1 v.2.1 v.2.2))
 have e:(w.alloc (vb k.1 k.2.1 k.2.2)).heap.size=w.heap.size+1:=by simp
 rw[e] at h0
 exact h0
set_option maxRecDepth 20000 in
set_option maxHeartbeats 2000000 in
theorem put_zero {p:Value} {z:Int} (k v:V) (w:World) (hS0:∀W,Below w.heap.size w W→Calls Tryz.prog 73 #[p] W fun e w'=>e= .returned (.int .i64 z)∧w'=W) (hf:fm k=true∧fm v=true) (hk:k.1≠0) (hr:Rng k) (hz:pw z=false):
 Calls Tryz.prog 89 #[p,vl k.1 k.2.1 k.2.2,vl v.1 v.2.1 v.2.2] w fun e w'=>e= .returned (.tuple #[.int .i64 0,.int .i64 (if v.1=0 then 0 else 12)])∧Below w.heap.size w w':=by
 have C1:=check_any k.1 k.2.1 k.2.2
 have C2:=check_any v.1 v.2.1 v.2.2
 rw[chk_of,if_pos hf.1] at C1
 rw[chk_of,if_pos hf.2] at C2
 have X1:=putW_k w k v
 have X2:=putW_v w k v
 have B0:=putW_below w k v
 obtain ⟨W0,hW0⟩:∃W0,putW w k v=W0:=⟨_,rfl⟩
 rw[hW0] at X1 X2 B0
 have CF:=find_bad k W0 (fun W hW=>hS0 W (bthen B0 B0.size hW)) hr.1 hr.2 (mnE_bad (.inl hz))
 have CI:=fun W (hW:Below w.heap.size w W)=>insert_bad k v W (fun W' hW'=>hS0 W' (bthen hW hW.size hW')) hr.1 hr.2 (mnE_bad (.inl hz))
 have HX1:Hid _:=X1
 have HX2:Hid _:=X2
 have HB0:Hid _:=B0
 have d0:=X1.c0
 have d1:=X1.c1
 have d2:=X1.c2
 obtain ⟨E,hE⟩:∃E,(if v.1=0 then (0:Int) else 12)=E:=⟨_,rfl⟩
 rw[hE]
 have HE:Hid _:=hE
 clear hf hr hz X1 X2 B0 hS0 hE
 unfold putW at hW0
 unfold vl vb at *
 generalize hsz:w.heap.size=B at *
 have hsz2:(w.alloc (.cells #[.int .i64 k.1,.int .i64 k.2.1,.string k.2.2] 36)).heap.size=B+1:=by rw[←hsz];simp
 have HSZ:Hid (w.heap.size=B):=hsz
 go_enter Tryz.func89,Tryz.ntmps89
 go_wp2_with fail
 refine (C1 _).mono ?_;rintro e w' ⟨rfl,rfl⟩
 go_wp2_with fail
 refine (C2 _).mono ?_;rintro e w' ⟨rfl,rfl⟩
 go_wp2_with fail
 refine CF.mono ?_;rintro e W1 ⟨rfl,hb⟩
 have hb1:Below B w W1:=bthen HB0.out (HSZ.out▸HB0.out.size) hb
 have Y1:=HX1.out.below hb
 have Y2:=HX2.out.below hb
 have q0:=Y1.c0
 have q1:=Y1.c1
 have q2:=Y1.c2
 have v0:=Y2.c0
 have v1:=Y2.c1
 have v2:=Y2.c2
 have CI1:=CI W1 hb1
 have HB1:Hid _:=hb1
 clear CI hb hb1 Y1 Y2 CF
 by_cases hv:v.1=0
 ·have e1:Hid (E=0):=by rw[←HE.out,if_pos hv];rfl
  clear HE
  go_wp2_with fail
  go_ret2
  rw[e1.out]
  exact ⟨rfl,HSZ.out▸HB1.out⟩
 ·have e1:Hid (E=12):=by rw[←HE.out,if_neg hv];rfl
  clear HE
  go_wp2_with fail
  refine CI1.mono ?_;rintro e W2 ⟨rfl,hb⟩
  go_wp2_with fail
  go_ret2
  rw[e1.out]
  exact ⟨rfl,bthen HB1.out (HSZ.out▸HB1.out.size) hb⟩
theorem nf_setX {z:Nat} {g:G} {i0:Nat} (v:V) (i j:Nat) (hj:j<7):
 (if i=i0∧j=5 then Value.string v.2.2 else if i=i0∧j=4 then .int .i64 v.2.1 else if i=i0∧j=3 then .int .i64 v.1 else nf (pl z) g i j)=nf (pl z) (setX g i0 v) i j:=by
 unfold nf
 rw[link_setX]
 by_cases e:i=i0
 ·have hX:(setX g i0 v).X i=v:=by rw[e];exact upd_at _ _ _
  have hK:(setX g i0 v).K i=g.K i:=rfl
  rw[hX,hK]
  rcases lt7 hj with rfl | rfl | rfl | rfl | rfl | rfl | rfl<;>simp[nc,e]
 ·have hX:(setX g i0 v).X i=g.X i:=upd_ne _ _ e
  have hK:(setX g i0 v).K i=g.K i:=rfl
  rw[hX,hK]
  simp[e]
set_option maxRecDepth 20000 in
set_option maxHeartbeats 2000000 in
theorem put_good {b a z:Nat} {g:G} (k v:V) (w:World) (h:Pt w b a z g) (hi:Inv z (pl z) KOK g) (hz:pw z=true) (hk:KOK k) (hv:fm v=true):
 Calls Tryz.prog 89 #[pp b,vl k.1 k.2.1 k.2.2,vl v.1 v.2.1 v.2.2] w fun e w'=>e= .returned (.tuple #[.int .i64 ((put z g k v).2.1:Nat),.int .i64 (put z g k v).2.2])∧Pt w' b a z (put z g k v).1∧Keep (fun x=>x≠a∧x≠b) w w':=by
 have C1:=check_any k.1 k.2.1 k.2.2
 have C2:=check_any v.1 v.2.1 v.2.2
 rw[chk_of,if_pos (show fm k=true from hk.1)] at C1
 rw[chk_of,if_pos hv] at C2
 have hk0:=hk.2.1
 have hz0:z≠0:=by have:=(pw_bounds z hz).1;omega
 have X1:=putW_k w k v
 have X2:=putW_v w k v
 have B0:=putW_below w k v
 obtain ⟨W0,hW0⟩:∃W0,putW w k v=W0:=⟨_,rfl⟩
 rw[hW0] at X1 X2 B0
 have P0:=h.below B0
 have CF:=find_any k W0 P0 hi hz hk
 have CI:=fun W (P:Pt W b a z g)=>insert_any k v W P hi hz hk
 have HX1:Hid _:=X1
 have HX2:Hid _:=X2
 have HB0:Hid _:=B0
 have HP0:Hid _:=P0
 have HR:Hid (put z g k v=match find (pl z) g k with
  | (some i,n)=>(setX g i v,n,0)
  | (none,n)=>if v.1=0 then (g,n,0) else ((ins (pl z) g k v).1,n,full (ins (pl z) g k v).2)):=by
  show _=_
  rw[put,if_pos ⟨hk.1,hv⟩,if_neg hk0,if_neg hz0]
  all_goals rfl
 have HFS:Hid (∀i n,find (pl z) g k=(some i,n)→i<z):=fun i n hf=>(hi.find_some (fun k _=>pl_lt hz k) hk hf).2.1
 have d0:=X1.c0
 have d1:=X1.c1
 have d2:=X1.c2
 have HLT:Hid (b<w.heap.size∧a<w.heap.size):=⟨h.ltb,h.lta⟩
 clear hv X1 X2 B0 P0 h hi hz hk
 unfold putW at hW0
 unfold pp vl vb at *
 generalize hsz:w.heap.size=B at *
 have hsz2:(w.alloc (.cells #[.int .i64 k.1,.int .i64 k.2.1,.string k.2.2] 36)).heap.size=B+1:=by rw[←hsz];simp
 have HSZ:Hid (w.heap.size=B):=hsz
 go_enter Tryz.func89,Tryz.ntmps89
 go_wp2_with fail
 refine (C1 _).mono ?_;rintro e w' ⟨rfl,rfl⟩
 go_wp2_with fail
 refine (C2 _).mono ?_;rintro e w' ⟨rfl,rfl⟩
 go_wp2_with fail
 refine CF.mono ?_;rintro e W1 ⟨rfl,hb⟩
 have hb1:Below B w W1:=bthen HB0.out (HSZ.out▸HB0.out.size) hb
 have Y1:=HX1.out.below hb
 have Y2:=HX2.out.below hb
 have P1:=HP0.out.below hb
 have q0:=Y1.c0
 have q1:=Y1.c1
 have q2:=Y1.c2
 have v0:=Y2.c0
 have v1:=Y2.c1
 have v2:=Y2.c2
 have CI1:=CI W1 P1
 have HB1:Hid _:=hb1
 have HP1:Hid _:=P1
 clear CI hb hb1 Y1 Y2 CF P1
 cases hf:find (pl z) g k with
 | mk o n=>
   cases o with
   | some i=>
     have hiz:=HFS.out i n hf
     have hiz':(i:Int)<(z:Int):=by omega
     have HR2:Hid (put z g k v=(setX g i v,n,0)):=by have h0:=HR.out;rw[hf] at h0;exact h0
     have hi0:¬((i:Int)<0):=by omega
     have c1:=HP1.out.all
     obtain ⟨y0,y1,y2,y3,y4,y5,y6,n0,n1,n2,n3,n4,n5,n6⟩:=HP1.out.n hiz
     have fz:=HP1.out.fa
     clear hf HR CI1
     have P2:Hid _:=((HP1.out.q.set hiz (j0:=3) (by omega) (.int .i64 v.1)).set hiz (j0:=4) (by omega) (.int .i64 v.2.1)).set hiz (j0:=5) (by omega) (.string v.2.2)
     have K2:Hid _:=((((Keep.of (No:=fun x=>x≠a∧x≠b) (HSZ.out▸HB1.out)).set (p:=⟨a,i * 7+3,none⟩) (fun x=>x.1 rfl) (.int .i64 v.1)).set (p:=⟨a,i * 7+4,none⟩) (fun x=>x.1 rfl) (.int .i64 v.2.1)).set (p:=⟨a,i * 7+5,none⟩) (fun x=>x.1 rfl) (.string v.2.2))
     obtain ⟨W2,hW2⟩:∃W2,((W1.setCell ⟨a,i * 7+3,none⟩ (.int .i64 v.1)).setCell ⟨a,i * 7+4,none⟩ (.int .i64 v.2.1)).setCell ⟨a,i * 7+5,none⟩ (.string v.2.2)=W2:=⟨_,rfl⟩
     rw[hW2] at P2 K2
     simp only[fi]
     go_wp2_with fail
     refine wp_tail 8 (by kernel_rfl) (by kernel_rfl) ?_
     simp only[List.take_succ_cons,List.take_zero,List.drop_succ_cons,List.drop_zero]
     repeat still_step
     refine wpStill_nil ?_
     go_wp2_with fail
     go_ret2
     rw[HR2.out]
     exact ⟨rfl,(P2.out.below (bdrew1 _)).pt (fun i _ j hj=>nf_setX v i j hj) rfl,K2.out.bel (bdrew1 _)⟩
   | none=>
     have HR2:Hid (put z g k v=if v.1=0 then (g,n,0) else ((ins (pl z) g k v).1,n,full (ins (pl z) g k v).2)):=by have h0:=HR.out;rw[hf] at h0;exact h0
     clear hf HR
     simp only[fi]
     by_cases hv:v.1=0
     ·have HR3:Hid _:=HR2.out.trans (if_pos hv)
      clear HR2
      go_wp2_with fail
      go_ret2
      rw[HR3.out]
      exact ⟨rfl,HP1.out,Keep.of (HSZ.out▸HB1.out)⟩
     ·have HR3:Hid _:=HR2.out.trans (if_neg hv)
      clear HR2
      go_wp2_with fail
      refine CI1.mono ?_;rintro e W2 ⟨rfl,P2,K2⟩
      have HP2:Hid _:=P2
      have HK2:Hid _:=K2
      clear P2 K2 CI1
      go_wp2_with fail
      go_ret2
      rw[HR3.out]
      exact ⟨rfl,HP2.out,(Keep.of (HSZ.out▸HB1.out)).trans HK2.out⟩
end Go.Proofs.YtkmopcanaalemabGreat


namespace Go.Proofs.YtkmopcanaalemabGreat
open Go.RowKit
def g0 (z:Nat):G:={K:=fun _=>nil,X:=fun _=>nil,C:=fun _=>[],f:=z}
theorem g0_inv (z:Nat) (pl:V→Nat):Inv z pl KOK (g0 z):=
 ⟨fun _ _=>.inl rfl,fun _ _ _=>rfl,fun _ _ _ h=>(by cases h),fun _ _=>List.nodup_nil,fun _ _=>.inl rfl,fun _ _ h=>absurd rfl h,fun _ _ _ _ h _=>absurd rfl h,Nat.le_refl _,fun i hi hf=>absurd hi (by show ¬i<z;exact Nat.not_lt.2 hf)⟩
theorem nf_g0 (z i j:Nat):nf (pl z) (g0 z) i j=nc nil nil 0 j:=by
 unfold nf
 rw[link_no (g:=g0 z) rfl]
 rfl
theorem cell_of_row {w:World} {g:Nat} {cs:Array Value} {t:TypeId} (h:w.heap[g]?=some (.cells cs t)) (i:Nat):w.cell? ⟨g,i,none⟩=cs[i]?:=by
 unfold World.cell?
 rw[h]
 simp
theorem new_free (w:World) (cs:Array Value) (t:TypeId) (i:Nat):(w.alloc (.cells cs t)).frozen? ⟨w.heap.size,i,none⟩=false:=by
 unfold World.frozen?
 rw[(MapKept.heap_alloc w _).1]
 simp
theorem info54:(Tryz.prog.info? 123).map (fun i=>(i.zero,i.size,i.bytes))=some (some (vn nil nil 0),7,72):=by kernel_rfl
abbrev zeros7 (n:Nat):Array Value:=madeCells (vn nil nil 0).cells (n * 7)
theorem made_node (w:World) (n:Nat):Rc (w.alloc (.cells (zeros7 n) 123)) w.heap.size n (fun _ j=>nc nil nil 0 j):=⟨fun i hi j hj=>by
 rw[cell_of_row (MapKept.heap_alloc w _).1]
 have h:i * 7+j<n * 7:=by omega
 have hm:(i * 7+j) % 7=j:=by omega
 have h':i * 7<n * 7:=by omega
 rcases lt7 hj with rfl | rfl | rfl | rfl | rfl | rfl | rfl<;>simp[zeros7,madeCells,Value.cells,nc,h,h',hm]⟩
theorem make_node (m:Nat) (hm:m≤65536) (W:World):(Instr.makeSlice 81 (.int .i64 m) (.int .i64 m)).run Tryz.prog W= .ok (.slice (some ⟨W.heap.size,0,none⟩) m m) (W.alloc (.cells (zeros7 m) 123)):=by
 obtain ⟨i0,hi,hz0,hz1,hz2⟩:=info_parts info54
 have h:=run_make (P:=Tryz.prog) W 81 123 i0 (vn nil nil 0) Tryz.underlying81 hi hz0 .i64 .i64 m m (by omega) (Int.le_refl _) (by rw[hz2];omega) (by omega)
 rw[hz1] at h
 simpa using h
abbrev newW (w:World) (z:Nat):World:=(w.alloc (.cells (zeros7 z) 123)).alloc (.cells #[.slice (some ⟨w.heap.size,0,none⟩) z z,.int .i64 (z:Nat)] 156)
theorem newW_below (w:World) (z:Nat):Below w.heap.size w (newW w z):=b2 _ _ _
theorem newW_pt (w:World) (z:Nat):Pt (newW w z) (w.heap.size+1) w.heap.size z (g0 z):=by
 have hs:(w.alloc (.cells (zeros7 z) 123)).heap.size=w.heap.size+1:=by simp
 have hb:=b1 (w.alloc (.cells (zeros7 z) 123)) (.cells #[.slice (some ⟨w.heap.size,0,none⟩) z z,.int .i64 (z:Nat)] 156)
 refine ⟨?_,?_,?_,fun j=>?_,fun j=>?_,by omega,by simp,by simp;omega⟩
 ·have h0:=cell_of_row (MapKept.heap_alloc (w.alloc (.cells (zeros7 z) 123)) (.cells #[.slice (some ⟨w.heap.size,0,none⟩) z z,.int .i64 (z:Nat)] 156)).1 0
  rw[hs] at h0;exact h0
 ·have h0:=cell_of_row (MapKept.heap_alloc (w.alloc (.cells (zeros7 z) 123)) (.cells #[.slice (some ⟨w.heap.size,0,none⟩) z z,.int .i64 (z:Nat)] 156)).1 1
  rw[hs] at h0;exact h0
 ·exact ((made_node w z).block (hb.block _ (by rw[hs];omega))).congr fun i _ j _=>(nf_g0 z i j).symm
 ·have h0:=new_free (w.alloc (.cells (zeros7 z) 123)) #[.slice (some ⟨w.heap.size,0,none⟩) z z,.int .i64 (z:Nat)] 156 j
  rw[hs] at h0;exact h0
 ·rw[hb.frozen (by rw[hs];exact Nat.lt_succ_self _)];exact new_free w _ _ j
def rt (z:Int):Bool:=decide (z=0) || pw z
theorem and0:bits .and .i64 0 (-1)=0:=by decide
theorem and_pw {z:Int} (h:1≤z∧z≤65536):bits .and .i64 z (z - 1)=((z.toNat &&& (z.toNat - 1):Nat):Int):=by
 have:=i64_and_nat z.toNat (z.toNat - 1) (by omega) (by omega)
 rw[show ((z.toNat:Nat):Int)=z by omega,show ((z.toNat - 1:Nat):Int)=z - 1 by omega] at this
 exact this
set_option maxRecDepth 20000 in
set_option maxHeartbeats 2000000 in
theorem new_any (n:Nat) (w:World) (h:Rt n):Calls Tryz.prog 86 #[.int .i64 (n:Nat)] w fun e w'=>e= .returned (.tuple #[pp (w.heap.size+1),.int .i64 0])∧w'=newW w n:=by
 have hle:=h.le
 have hmk:=make_node n hle w
 have hs:(w.alloc (.cells (zeros7 n) 123)).heap.size=w.heap.size+1:=by simp
 obtain ⟨W1,hW1⟩:∃W1,w.alloc (.cells (zeros7 n) 123)=W1:=⟨_,rfl⟩
 have HW:Hid (newW w n=W1.alloc (.cells #[.slice (some ⟨w.heap.size,0,none⟩) n n,.int .i64 (n:Nat)] 156)):=by show _=_;rw[newW,hW1]
 rw[hW1] at hmk hs
 rw[HW.out]
 clear hW1 HW
 unfold pp
 rcases h with rfl | h
 ·have ha:=and0
  have hmk':(Instr.makeSlice 81 (.int .i64 0) (.int .i64 0)).run Tryz.prog w= .ok (.slice (some ⟨w.heap.size,0,none⟩) 0 0) W1:=hmk
  clear hmk
  show Calls Tryz.prog 86 #[.int .i64 0] w fun e w'=>e= .returned (.tuple #[.pointer (some ⟨w.heap.size+1,0,none⟩),.int .i64 0])∧w'=W1.alloc (.cells #[.slice (some ⟨w.heap.size,0,none⟩) 0 0,.int .i64 0] 156)
  go_enter Tryz.func86,Tryz.ntmps86
  go_wp2
  go_ret2
  exact ⟨rfl,rfl⟩
 ·have hb:=pw_bounds n h
  have ha:bits .and .i64 (n:Int) ((n:Int) - 1)=0:=by
   rw[and_pw hb]
   simp only[pw,Bool.and_eq_true,decide_eq_true_eq] at h
   rw[h.2];rfl
  clear h
  go_enter Tryz.func86,Tryz.ntmps86
  go_wp2
  go_ret2
  exact ⟨rfl,rfl⟩
abbrev nn (g:G) (z:Nat) (i:Int):Value:=if 0≤i∧i<z then vn (g.K i.toNat) (g.X i.toNat) (link (pl z) g i.toNat) else vn nil nil 0
set_option maxRecDepth 20000 in
set_option maxHeartbeats 2000000 in
theorem at_in {b a z:Nat} {g:G} (i:Nat) (w:World) (h:Pt w b a z g) (hi:i<z):
 Calls Tryz.prog 77 #[pp b,.int .i64 (i:Nat)] w fun e w'=>e= .returned (vn (g.K i) (g.X i) (link (pl z) g i))∧Below w.heap.size w w':=by
 have HW:Hid (Below w.heap.size w (w.alloc (.cells #[.int .i64 (g.K i).1,.int .i64 (g.K i).2.1,.string (g.K i).2.2,.int .i64 (g.X i).1,.int .i64 (g.X i).2.1,.string (g.X i).2.2,.int .i64 (link (pl z) g i)] 123))):=b1 w _
 have P1:Pt (w.alloc (.cells #[.int .i64 0,.int .i64 0,.string ⟨#[]⟩,.int .i64 0,.int .i64 0,.string ⟨#[]⟩,.int .i64 0] 123)) b a z g:=h.below (b1 w _)
 have CS:=size_any _ P1
 obtain ⟨k0,k1,k2⟩:=h.k hi
 obtain ⟨x0,x1,x2⟩:=h.x hi
 have l6:=h.l hi
 have c1:=h.all
 have hlt:a<w.heap.size:=h.lta
 have hlb:b<w.heap.size:=h.ltb
 clear h P1
 unfold pp vn at *
 generalize (g.K i).1=r0 at *
 generalize (g.K i).2.1=r1 at *
 generalize (g.K i).2.2=r2 at *
 generalize (g.X i).1=s0 at *
 generalize (g.X i).2.1=s1 at *
 generalize (g.X i).2.2=s2 at *
 generalize link (pl z) g i=l at *
 have hiz:(i:Int)<(z:Int):=by omega
 have hi0:¬((i:Int)<0):=by omega
 go_enter Tryz.func77,Tryz.ntmps77
 go_wp2_with fail
 refine CS.mono ?_;rintro e w' ⟨rfl,rfl⟩
 go_wp2_with fail
 refine bodyPost_ret (v:=.agg #[.int .i64 r0,.int .i64 r1,.string r2,.int .i64 s0,.int .i64 s1,.string s2,.int .i64 l]) (by simp[results,Tryz.results77,go_sem]) rfl ⟨rfl,?_⟩
 exact HW.out
set_option maxRecDepth 20000 in
set_option maxHeartbeats 2000000 in
theorem at_out {p:Value} {z:Int} (i:Int) (w:World) (hS:∀W,Below w.heap.size w W→Calls Tryz.prog 73 #[p] W fun e w'=>e= .returned (.int .i64 z)∧w'=W) (hi:i<0∨z≤i):
 Calls Tryz.prog 77 #[p,.int .i64 i] w fun e w'=>e= .returned (vn nil nil 0)∧Below w.heap.size w w':=by
 have HW:Hid (Below w.heap.size w (w.alloc (.cells #[.int .i64 0,.int .i64 0,.string ⟨#[]⟩,.int .i64 0,.int .i64 0,.string ⟨#[]⟩,.int .i64 0] 123))):=b1 w _
 have CS:=hS _ (b1 w (.cells #[.int .i64 0,.int .i64 0,.string ⟨#[]⟩,.int .i64 0,.int .i64 0,.string ⟨#[]⟩,.int .i64 0] 123))
 clear hS
 unfold vn
 by_cases h0:i<0
 ·clear hi
  go_enter Tryz.func77,Tryz.ntmps77
  go_wp2_with fail
  refine bodyPost_ret (v:=.agg #[.int .i64 0,.int .i64 0,.string ⟨#[]⟩,.int .i64 0,.int .i64 0,.string ⟨#[]⟩,.int .i64 0]) (by simp[results,Tryz.results77,go_sem]) rfl ⟨rfl,?_⟩
  exact HW.out
 ·have h1:z≤i:=by omega
  clear hi
  go_enter Tryz.func77,Tryz.ntmps77
  go_wp2_with fail
  refine CS.mono ?_;rintro e w' ⟨rfl,rfl⟩
  go_wp2_with fail
  refine bodyPost_ret (v:=.agg #[.int .i64 0,.int .i64 0,.string ⟨#[]⟩,.int .i64 0,.int .i64 0,.string ⟨#[]⟩,.int .i64 0]) (by simp[results,Tryz.results77,go_sem]) rfl ⟨rfl,?_⟩
  exact HW.out
def xAt (g:G):Option Nat→V
 | none=>nil
 | some i=>g.X i
def fnd (z:Nat) (g:G) (k:V):Option Nat×Nat:=if z=0∨fm k=false∨k.1=0 then (none,0) else find (pl z) g k
theorem find_all {b a z:Nat} {g:G} (k:V) (w:World) (h:Pt w b a z g) (hi:Inv z (pl z) KOK g) (hz:Rt z) (hr:Rng k):
 Calls Tryz.prog 81 #[pp b,vl k.1 k.2.1 k.2.2] w fun e w'=>e= .returned (.tuple #[.int .i64 (fi (fnd z g k).1),.int .i64 ((fnd z g k).2:Nat)])∧Below w.heap.size w w':=by
 unfold fnd
 by_cases hb:z=0∨fm k=false∨k.1=0
 ·rw[if_pos hb]
  refine find_bad k w h.sizes hr.1 hr.2 (mnE_bad ?_)
  rcases hb with hb | hb | hb
  ·rw[hb];exact .inl pw0
  ·exact .inr (.inl hb)
  ·exact .inr (.inr hb)
 ·rw[if_neg hb]
  simp only[not_or,Bool.not_eq_false] at hb
  exact find_any k w h hi (hz.resolve_left hb.1) ⟨hb.2.1,hb.2.2,hr.1,hr.2⟩
theorem fnd_lt {z:Nat} {g:G} {k:V} (hi:Inv z (pl z) KOK g) (hz:Rt z) (hr:Rng k) {i n:Nat} (h:fnd z g k=(some i,n)):i<z∧g.K i=k∧0<n:=by
 unfold fnd at h
 by_cases hb:z=0∨fm k=false∨k.1=0
 ·rw[if_pos hb] at h;cases h
 ·rw[if_neg hb] at h
  simp only[not_or,Bool.not_eq_false] at hb
  have hz':=hz.resolve_left hb.1
  obtain ⟨q1,q2,q3⟩:=hi.find_some (fun k _=>pl_lt hz' k) (show KOK k from ⟨hb.2.1,hb.2.2,hr.1,hr.2⟩) h
  exact ⟨q2,q1,q3⟩
set_option maxRecDepth 20000 in
set_option maxHeartbeats 2000000 in
theorem get_any {b a z:Nat} {g:G} (k:V) (w:World) (h:Pt w b a z g) (hi:Inv z (pl z) KOK g) (hz:Rt z) (hr:Rng k):
 Calls Tryz.prog 41 #[pp b,vl k.1 k.2.1 k.2.2] w fun e w'=>e= .returned (.tuple #[vl (xAt g (fnd z g k).1).1 (xAt g (fnd z g k).1).2.1 (xAt g (fnd z g k).1).2.2,.int .i64 ((fnd z g k).2:Nat)])∧Below w.heap.size w w':=by
 obtain ⟨W0,hW0⟩:∃W0,(w.alloc (vb k.1 k.2.1 k.2.2)).alloc (vb 0 0 ⟨#[]⟩)=W0:=⟨_,rfl⟩
 have B0:Below w.heap.size w W0:=by rw[←hW0];exact b2 _ _ _
 have P0:Pt W0 b a z g:=h.below B0
 have CF:=find_all k W0 P0 hi hz hr
 have HL:Hid (∀i n,fnd z g k=(some i,n)→i<z):=fun i n hf=>(fnd_lt hi hz hr hf).1
 have X2:Bx W0 (w.heap.size+1) nil:=by
  have h0:=Bx.made (w.alloc (vb k.1 k.2.1 k.2.2)) nil
  have e:(w.alloc (vb k.1 k.2.1 k.2.2)).heap.size=w.heap.size+1:=by simp
  rw[e] at h0
  rw[←hW0];exact h0
 have F2:∀j,W0.frozen? ⟨w.heap.size+1,j,none⟩=false:=fun j=>by
  have h0:=new_free (w.alloc (vb k.1 k.2.1 k.2.2)) #[.int .i64 0,.int .i64 0,.string ⟨#[]⟩] 36 j
  have e:(w.alloc (vb k.1 k.2.1 k.2.2)).heap.size=w.heap.size+1:=by simp
  rw[e] at h0
  rw[←hW0];exact h0
 have HP0:Hid _:=P0
 have HB0:Hid _:=B0
 have HX2:Hid _:=X2
 have HF2:Hid _:=F2
 clear h hi hz hr B0 P0 X2 F2
 unfold pp vl vb at *
 generalize hsz:w.heap.size=B at *
 have hsz2:(w.alloc (.cells #[.int .i64 k.1,.int .i64 k.2.1,.string k.2.2] 36)).heap.size=B+1:=by rw[←hsz];simp
 have d0:((w.alloc (.cells #[.int .i64 k.1,.int .i64 k.2.1,.string k.2.2] 36)).alloc (.cells #[.int .i64 0,.int .i64 0,.string ⟨#[]⟩] 36)).cell? ⟨B,0,none⟩=some (.int .i64 k.1):=by rw[←hsz];simp[go_sem]
 have d1:((w.alloc (.cells #[.int .i64 k.1,.int .i64 k.2.1,.string k.2.2] 36)).alloc (.cells #[.int .i64 0,.int .i64 0,.string ⟨#[]⟩] 36)).cell? ⟨B,1,none⟩=some (.int .i64 k.2.1):=by rw[←hsz];simp[go_sem]
 have d2:((w.alloc (.cells #[.int .i64 k.1,.int .i64 k.2.1,.string k.2.2] 36)).alloc (.cells #[.int .i64 0,.int .i64 0,.string ⟨#[]⟩] 36)).cell? ⟨B,2,none⟩=some (.string k.2.2):=by rw[←hsz];simp[go_sem]
 rw[hW0] at d0 d1 d2
 have HSZ:Hid (w.heap.size=B):=hsz
 cases hf:fnd z g k with
 | mk o n=>
   rw[hf] at CF
   go_enter Tryz.func41,Tryz.ntmps41
   go_wp2_with fail
   refine CF.mono ?_;rintro e W1 ⟨rfl,hb⟩
   have hb1:Below B w W1:=bthen HB0.out (HSZ.out▸HB0.out.size) hb
   have P1:=HP0.out.below hb
   have Y2:=HX2.out.below hb
   have FF:∀j,W1.frozen? ⟨B+1,j,none⟩=false:=fun j=>by rw[hb.frozen (by exact HX2.out.lt)];exact HF2.out j
   cases o with
   | some i=>
     have hiz:=HL.out i n hf
     have CA:=at_in i W1 P1 hiz
     unfold pp vn at CA
     have HB1:Hid _:=hb1
     have HY2:Hid _:=Y2
     have HFF:Hid _:=FF
     simp only[fi]
     clear hb1 hb CF Y2 FF P1
     go_wp2_with fail
     refine CA.mono ?_;rintro e W2 ⟨rfl,hb⟩
     have hb2:Below B w W2:=bthen HB1.out (HSZ.out▸HB1.out.size) hb
     have Y3:=HY2.out.below hb
     have c0:=Y3.c0
     have c1:=Y3.c1
     have c2:=Y3.c2
     have ff:∀j,W2.frozen? ⟨B+1,j,none⟩=false:=fun j=>by rw[hb.frozen (by exact HY2.out.lt)];exact HFF.out j
     have HB2:Hid _:=hb2
     have f1:=field1 (g.K i) (g.X i) (link (pl z) g i)
     unfold vn vl at f1
     have S3:Hid _:=Keep.bel (No:=fun x=>x<B) (((Keep.of (No:=fun x=>x<B) (HSZ.out▸hb2)).set (p:=⟨B+1,0,none⟩) (by simp) (.int .i64 (g.X i).1)).set (p:=⟨B+1,1,none⟩) (by simp) (.int .i64 (g.X i).2.1) |>.set (p:=⟨B+1,2,none⟩) (by simp) (.string (g.X i).2.2)) (Below.refl _ _)
     clear hb hb2 Y3
     go_wp2_with fail
     refine bodyPost_ret (v:=.tuple #[.agg #[.int .i64 (g.X i).1,.int .i64 (g.X i).2.1,.string (g.X i).2.2],.int .i64 (n:Nat)]) (by simp[results,Tryz.results41,go_sem,c0,c1,c2]) rfl ⟨rfl,?_⟩
     exact S3.out.below (HSZ.out▸Nat.le_refl _) (fun g hg=>hg)
   | none=>
     have CA:=at_out (-1) W1 P1.sizes (.inl (by omega))
     unfold pp vn at CA
     have HB1:Hid _:=hb1
     have HY2:Hid _:=Y2
     have HFF:Hid _:=FF
     simp only[fi]
     clear hb1 hb CF Y2 FF P1
     go_wp2_with fail
     refine CA.mono ?_;rintro e W2 ⟨rfl,hb⟩
     have hb2:Below B w W2:=bthen HB1.out (HSZ.out▸HB1.out.size) hb
     have Y3:=HY2.out.below hb
     have c0:=Y3.c0
     have c1:=Y3.c1
     have c2:=Y3.c2
     have ff:∀j,W2.frozen? ⟨B+1,j,none⟩=false:=fun j=>by rw[hb.frozen (by exact HY2.out.lt)];exact HFF.out j
     have HB2:Hid _:=hb2
     have f1:=field1 nil nil 0
     unfold vn vl at f1
     have S3:Hid _:=Keep.bel (No:=fun x=>x<B) (((Keep.of (No:=fun x=>x<B) (HSZ.out▸hb2)).set (p:=⟨B+1,0,none⟩) (by simp) (.int .i64 nil.1)).set (p:=⟨B+1,1,none⟩) (by simp) (.int .i64 nil.2.1) |>.set (p:=⟨B+1,2,none⟩) (by simp) (.string nil.2.2)) (Below.refl _ _)
     clear hb hb2 Y3
     go_wp2_with fail
     refine bodyPost_ret (v:=.tuple #[.agg #[.int .i64 nil.1,.int .i64 nil.2.1,.string nil.2.2],.int .i64 (n:Nat)]) (by simp[results,Tryz.results41,go_sem,c0,c1,c2]) rfl ⟨rfl,?_⟩
     exact S3.out.below (HSZ.out▸Nat.le_refl _) (fun g hg=>hg)
end Go.Proofs.YtkmopcanaalemabGreat


namespace Go.Proofs.YtkmopcanaalemabGreat
open Go.RowKit
theorem put_all {b a z:Nat} {g:G} (k v:V) (w:World) (h:Pt w b a z g) (hi:Inv z (pl z) KOK g) (hz:Rt z) (hr:Rng k):
 Calls Tryz.prog 89 #[pp b,vl k.1 k.2.1 k.2.2,vl v.1 v.2.1 v.2.2] w fun e w'=>e= .returned (.tuple #[.int .i64 ((put z g k v).2.1:Nat),.int .i64 (put z g k v).2.2])∧Pt w' b a z (put z g k v).1∧Keep (fun x=>x≠a∧x≠b) w w':=by
 by_cases hf:fm k=true∧fm v=true
 ·by_cases hk:k.1=0
  ·have e:put z g k v=(g,0,9):=by rw[put,if_pos hf,if_pos hk]
   rw[e]
   exact (put_key k v w hf hk).mono fun e w' ⟨h1,h2⟩=>⟨h1,h.below h2,Keep.of h2⟩
  ·by_cases hz0:z=0
   ·have e:put z g k v=(g,0,if v.1=0 then 0 else 12):=by rw[put,if_pos hf,if_neg hk,if_pos hz0]
    rw[e]
    exact (put_zero k v w h.sizes hf hk hr (by rw[hz0];exact pw0)).mono fun e w' ⟨h1,h2⟩=>⟨h1,h.below h2,Keep.of h2⟩
   ·exact put_good k v w h hi (hz.resolve_left hz0) ⟨hf.1,hk,hr.1,hr.2⟩ hf.2
 ·have e:put z g k v=(g,0,2):=by rw[put,if_neg hf]
  rw[e]
  exact (put_form k v w hf).mono fun e w' ⟨h1,h2⟩=>⟨h1,h.below h2,Keep.of h2⟩
theorem put_inv {z:Nat} {g:G} (k v:V) (hi:Inv z (pl z) KOK g) (hz:Rt z) (hr:Rng k):Inv z (pl z) KOK (put z g k v).1∧(put z g k v).1.f≤g.f:=by
 by_cases hf:fm k=true∧fm v=true
 ·by_cases hk:k.1=0
  ·rw[put,if_pos hf,if_pos hk];exact ⟨hi,Nat.le_refl _⟩
  ·by_cases hz0:z=0
   ·rw[put,if_pos hf,if_neg hk,if_pos hz0];exact ⟨hi,Nat.le_refl _⟩
   ·rw[put,if_pos hf,if_neg hk,if_neg hz0]
    have hz':=hz.resolve_left hz0
    have hK:KOK k:=⟨hf.1,hk,hr.1,hr.2⟩
    cases e:find (pl z) g k with
    | mk o n=>
      cases o with
      | some i=>
        obtain ⟨q1,q2,q3⟩:=hi.find_some (fun k _=>pl_lt hz' k) hK e
        exact ⟨hi.setX v (by rw[q1];exact hK.ne),Nat.le_refl _⟩
      | none=>
        simp only
        split
        ·exact ⟨hi,Nat.le_refl _⟩
        ·exact hi.ins (fun k _=>pl_lt hz' k) v hK hK.ne (hi.find_none (fun k _=>pl_lt hz' k) hK.ne e)
 ·rw[put,if_neg hf];exact ⟨hi,Nat.le_refl _⟩
def rowOf (F:Nat→Nat→Value) (z:Nat):List Value:=(List.range (z * 7)).map (fun j=>F (j / 7) (j % 7))
theorem rowOf_at (F:Nat→Nat→Value) (z j:Nat) (h:j<z * 7):(rowOf F z)[j]?=some (F (j / 7) (j % 7)):=by
 unfold rowOf
 rw[List.getElem?_map,List.getElem?_range h]
 rfl
theorem rowOf_len (F:Nat→Nat→Value) (z:Nat):(rowOf F z).length=z * 7:=by simp[rowOf]
theorem nc_one (k x:V) (l:Int) (j:Nat):(nc k x l j).oneCell'=true:=by
 unfold nc
 split<;>rfl
theorem clone_app (a z cap:Nat) (F:Nat→Nat→Value) (w:World) (hv:Rc w a z F) (hlt:a<w.heap.size) (h1:∀i j,(F i j).oneCell'=true) (hz:z≤65536):
 ∃g' c' w',(Builtin.append_ #[81,81] 81 #[.slice (some ⟨w.heap.size,0,none⟩) 0 0,.slice (some ⟨a,0,none⟩) z cap]).run Tryz.prog (w.alloc (.cells #[] 123))= .ok (.slice (some ⟨g',0,none⟩) z c') w'∧
  Rc w' g' z F∧(∀j,w'.frozen? ⟨g',j,none⟩=false)∧w.heap.size≤g'∧g'<w'.heap.size∧Below w.heap.size w w':=by
 obtain ⟨i0,hi,hz0,hz1,hz2⟩:=info_parts info54
 have hb0:Below w.heap.size w (w.alloc (.cells #[] 123)):=b1 w _
 have hv2:Rc (w.alloc (.cells #[] 123)) a z F:=hv.block (hb0.block a hlt)
 obtain ⟨v',w',hr,hown,hg,hne⟩:=run_append_own (P:=Tryz.prog) (w.alloc (.cells #[] 123)) w.heap.size 81 81 123 i0 (vn nil nil 0) 7 72 Tryz.underlying81 hi hz0 hz1 hz2 rfl (by omega)
  (.slice (some ⟨w.heap.size,0,none⟩) 0 0) 0 [] (World.ownsRow_made w #[] 0 (Nat.le_refl _) (Nat.zero_le _) rfl)
  ⟨a,0,none⟩ z cap (rowOf F z) (rowOf_len F z) (fun j u hu=>by
    have hj:j<z * 7:=by
     obtain ⟨h,_⟩:=List.getElem?_eq_some_iff.1 hu
     rw[rowOf_len] at h
     exact h
    rw[rowOf_at F z j hj] at hu
    have h2:=hv2.c (j / 7) (by omega) (j % 7) (by omega)
    have e:(Addr.add ⟨a,0,none⟩ j)=⟨a,j / 7 * 7+j % 7,none⟩:=by
     have e2:j / 7 * 7+j % 7=j:=by omega
     rw[e2]
     by_cases hj0:j=0
     ·subst hj0;rfl
     ·simp[Addr.add,hj0]
    rw[e,h2]
    exact hu) (fun u hu=>by
     unfold rowOf at hu
     rw[List.mem_map] at hu
     obtain ⟨j,_,rfl⟩:=hu
     exact h1 _ _) (by simp only[maxLen];omega) (by omega) (by simp)
 have hbel:Below w.heap.size w w':=hb0.grown hg (by simp) (fun k hk=>by
  simp only[Value.ownBlock,Option.some.injEq] at hk
  omega)
 simp only[Nat.zero_add,List.nil_append] at hown
 have hown2:=hown
 rcases hown.2 with ⟨h',_⟩ | ⟨g,c,cur,rfl,hbg,hgo,_,_,_,_⟩
 ·have:=hne.1 h'
  simp at this
 ·have hlt:g<w'.heap.size:=by
   rw[Array.getElem?_eq_some_iff] at hgo
   exact hgo.1
  refine ⟨g,c,w',hr,⟨fun i hi j hj=>?_⟩,fun j=>?_,hbg,hlt,hbel⟩
  ·rw[hown2.cellAt _ (by omega),rowOf_at F z _ (by omega)]
   have e1:(i * 7+j) / 7=i:=by omega
   have e2:(i * 7+j) % 7=j:=by omega
   rw[e1,e2]
  ·unfold World.frozen?
   rw[hgo]
   simp
theorem wp_app {P:Program} {W W':World} {v':Value} {ops:Array Oper} {rest:List Oper} {o:Oper} {a:Act} {Q:Exit→Act→World→Prop} (hgd:o.guard=none) (s x:Operand) (t:TypeId)
 (ho:o.op= .call {callee:=.builtin .append,args:=#[s,x],argTypes:=#[t,t]}) (ty:TypeId) (hty:o.type=ty) (vs vx:Value) (hs:a.eval s=vs) (hx:a.eval x=vx)
 (hr:(Builtin.append_ #[t,t] ty #[vs,vx]).run P W= .ok v' W') (h:wpList P ops Q rest (a.put o.dst v') W'):wpList P ops Q (o::rest) a W:=
 wpList_plain hgd fun _ hK=>by
  unfold Oper.wp execOp
  simp only[ho,hty,resolve,invoke,builtin,Sem.run_bind,Sem.run_pure,Result.andThen_ok,List.map_toArray,List.map_cons,List.map_nil,hs,hx,hr]
  exact hK _ _ h
theorem notnil (a z cap:Nat) (W:World):(binOp .eql 81 (.slice (some ⟨a,0,none⟩) z cap) (.slice none 0 0)).run Tryz.prog W= .ok (.bool false) W:=by kernel_rfl
set_option maxRecDepth 20000 in
set_option maxHeartbeats 1000000 in
theorem mkI (n:Int) (w:World):Calls Tryz.prog 17 #[.int .i64 n] w fun e w'=>e= .returned (vl 2 n ⟨#[]⟩)∧Below w.heap.size w w':=by
 have HW:=b1 w (vb 2 n ⟨#[]⟩)
 unfold vl vb at *
 go_enter Tryz.func17,Tryz.ntmps17
 go_wp2
 refine bodyPost_ret (v:=.agg #[.int .i64 2,.int .i64 n,.string ⟨#[]⟩]) (by simp[results,Tryz.results17,go_sem]) rfl ⟨rfl,?_⟩
 exact HW
end Go.Proofs.YtkmopcanaalemabGreat


namespace Go.Proofs.YtkmopcanaalemabGreat
open Go.RowKit
def mg (z:Nat) (g:G) (k:V):V:=xAt g (fnd z g k).1
theorem fnd_good {z:Nat} {g:G} {k:V} (hz:z≠0) (hk:KOK k):fnd z g k=find (pl z) g k:=by
 rw[fnd,if_neg]
 rintro (e | e | e)
 ·exact hz e
 ·have:=hk.1;unfold fm at e;rw[this] at e;cases e
 ·exact hk.2.1 e
theorem mg_held {z:Nat} {g:G} {k:V} (hi:Inv z (pl z) KOK g) (hz:pw z=true) (hk:KOK k) {i:Nat} (hiz:i<z) (he:g.K i=k):mg z g k=g.X i:=by
 have hz0:z≠0:=by omega
 obtain ⟨p,q,_,_,hf⟩:=hi.find_held (fun k _=>pl_lt hz k) hiz (by rw[he];exact hk.ne)
 rw[he] at hf
 rw[mg,fnd_good hz0 hk,hf]
 rfl
theorem mg_not {z:Nat} {g:G} {k:V} (hi:Inv z (pl z) KOK g) (hz:pw z=true) (hk:KOK k) (hn:∀i,i<z→g.K i≠k):mg z g k=nil:=by
 have hz0:z≠0:=by have:=(pw_bounds z hz).1;omega
 rw[mg,fnd_good hz0 hk]
 cases hf:find (pl z) g k with
 | mk o n=>
   cases o with
   | none=>rfl
   | some i=>
     have:=hi.find_some (fun k _=>pl_lt hz k) hk hf
     exact absurd this.1 (hn i this.2.1)
theorem form_nil {v:V} (h:fm v=true) (h0:v.1=0):v=nil:=by
 obtain ⟨k,n,s⟩:=v
 simp only at h0
 subst h0
 simp only[fm,inF,if_true,Bool.and_eq_true,decide_eq_true_eq,List.isEmpty_iff] at h
 obtain ⟨rfl,hs⟩:=h
 rw[ByteArray.toList_eq] at hs
 obtain ⟨⟨l⟩⟩:=s
 simp at hs
 subst hs
 rfl
theorem put_map {z:Nat} {g:G} {k v:V} (hi:Inv z (pl z) KOK g) (hz:Rt z) (hr:Rng k) (he:(put z g k v).2.2=0):
 KOK k∧mg z (put z g k v).1 k=v∧∀k',KOK k'→k'≠k→mg z (put z g k v).1 k'=mg z g k':=by
 by_cases hf:fm k=true∧fm v=true
 ·by_cases hk0:k.1=0
  ·rw[put,if_pos hf,if_pos hk0] at he;cases he
  ·have hk:KOK k:=⟨hf.1,hk0,hr.1,hr.2⟩
   refine ⟨hk,?_⟩
   by_cases hz0:z=0
   ·have e:put z g k v=(g,0,if v.1=0 then 0 else 12):=by rw[put,if_pos hf,if_neg hk0,if_pos hz0]
    rw[e] at he⊢
    have hv0:v.1=0:=by
     by_cases q:v.1=0
     ·exact q
     ·simp only[if_neg q] at he;cases he
    refine ⟨?_,fun k' _ _=>rfl⟩
    rw[form_nil hf.2 hv0]
    show mg z g k=nil
    rw[mg,fnd,if_pos (Or.inl hz0)]
    rfl
   ·have hz':=hz.resolve_left hz0
    have hinv:=(put_inv k v hi hz hr).1
    have hold:∀k',KOK k'→(∃i,i<z∧g.K i=k')∨∀i,i<z→g.K i≠k':=fun k' _=>by
     by_cases q:∃i,i<z∧g.K i=k'
     ·exact .inl q
     ·exact .inr fun i hi e=>q ⟨i,hi,e⟩
    rw[put,if_pos hf,if_neg hk0,if_neg hz0] at he hinv⊢
    cases hfi:find (pl z) g k with
    | mk o n=>
      rw[hfi] at he hinv
      cases o with
      | some i=>
        simp only at he hinv⊢
        obtain ⟨h1,h2,h3⟩:=hi.find_some (fun k _=>pl_lt hz' k) hk hfi
        refine ⟨?_,fun k' hk' hne=>?_⟩
        ·rw[mg_held hinv hz' hk h2 h1];exact upd_at _ _ _
        ·rcases hold k' hk' with ⟨j,hj,ej⟩ | hn
         ·rw[mg_held hinv hz' hk' hj ej,mg_held hi hz' hk' hj ej]
          exact upd_ne _ _ (fun e=>hne (by rw[←ej,e,h1]))
         ·rw[mg_not hinv hz' hk' hn,mg_not hi hz' hk' hn]
      | none=>
        have hnew:=hi.find_none (fun k _=>pl_lt hz' k) hk.ne hfi
        simp only at he hinv⊢
        by_cases hv0:v.1=0
        ·rw[if_pos hv0]
         refine ⟨?_,fun k' _ _=>rfl⟩
         rw[mg_not hi hz' hk hnew,form_nil hf.2 hv0]
        ·rw[if_neg hv0] at he hinv⊢
         simp only at he hinv⊢
         have hb:(ins (pl z) g k v).2=true:=by
          cases q:(ins (pl z) g k v).2 with
          | true=>rfl
          | false=>rw[q] at he;exact absurd he (by decide)
         have hm:=hi.ins_map (fun k _=>pl_lt hz' k) v hk hb
         refine ⟨?_,fun k' hk' hne=>?_⟩
         ·obtain ⟨i,hi1,hi2,hi3⟩:=(hm k v hk.ne).2 (.inl ⟨rfl,rfl⟩)
          rw[mg_held hinv hz' hk hi1 hi2];exact hi3
         ·rcases hold k' hk' with ⟨j,hj,ej⟩ | hn
          ·obtain ⟨i,hi1,hi2,hi3⟩:=(hm k' (g.X j) hk'.ne).2 (.inr ⟨j,hj,ej,rfl⟩)
           rw[mg_held hinv hz' hk' hi1 hi2,hi3,mg_held hi hz' hk' hj ej]
          ·rw[mg_not hi hz' hk' hn,mg_not hinv hz' hk' (fun i hi1 e=>?_)]
           rcases (hm k' _ hk'.ne).1 ⟨i,hi1,e,rfl⟩ with ⟨q,_⟩ | ⟨j,hj,ej,_⟩
           ·exact hne q
           ·exact hn j hj ej
 ·rw[put,if_neg hf] at he;cases he
theorem put_bad {z:Nat} {g:G} {k v:V} (he:(put z g k v).2.2≠0):(∀k',mg z (put z g k v).1 k'=mg z g k')∧((put z g k v).2.2=12∨((put z g k v).2.2=2∧¬(fm k=true∧fm v=true))∨((put z g k v).2.2=9∧fm k=true∧fm v=true∧k.1=0)):=by
 by_cases hf:fm k=true∧fm v=true
 ·by_cases hk0:k.1=0
  ·rw[put,if_pos hf,if_pos hk0];exact ⟨fun _=>rfl,.inr (.inr ⟨rfl,hf.1,hf.2,hk0⟩)⟩
  ·by_cases hz0:z=0
   ·rw[put,if_pos hf,if_neg hk0,if_pos hz0] at he⊢
    by_cases q:v.1=0
    ·simp only[if_pos q] at he;exact absurd rfl he
    ·exact ⟨fun _=>rfl,.inl (if_neg q)⟩
   ·rw[put,if_pos hf,if_neg hk0,if_neg hz0] at he⊢
    cases hfi:find (pl z) g k with
    | mk o n=>
      rw[hfi] at he
      cases o with
      | some i=>exact absurd rfl he
      | none=>
        simp only at he⊢
        by_cases hv0:v.1=0
        ·rw[if_pos hv0] at he;exact absurd rfl he
        ·rw[if_neg hv0] at he⊢
         unfold ins at he⊢
         by_cases e1:g.K (pl z k)=nil
         ·rw[if_pos e1] at he;exact absurd rfl he
         ·rw[if_neg e1] at he⊢
          cases ht:tf g.K g.f with
          | none=>exact ⟨fun _=>rfl,.inl rfl⟩
          | some a=>
            rw[ht] at he
            simp only at he
            split at he<;>exact absurd rfl he
 ·rw[put,if_neg hf];exact ⟨fun _=>rfl,.inr (.inl ⟨rfl,hf⟩)⟩
end Go.Proofs.YtkmopcanaalemabGreat


namespace Go.Proofs.YtkmopcanaalemabGreat
variable {z : Nat} {pl : V → Nat} {ok : V → Prop} {g : G}
def sumTo : Nat → (Nat → Nat) → Nat
  | 0,_=>0
  | n + 1,f=>sumTo n f + f n
theorem sumTo_congr {n : Nat} {f f' : Nat → Nat} (h : ∀ j,j < n → f j = f' j) : sumTo n f = sumTo n f':=by
  induction n with
  | zero=>rfl
  | succ n ih=>rw [sumTo,sumTo,ih (fun j hj=>h j (by omega)),h n (by omega)]
theorem sumTo_add (n : Nat) (f f' : Nat → Nat) : sumTo n (fun j=>f j + f' j) = sumTo n f + sumTo n f':=by
  induction n with
  | zero=>rfl
  | succ n ih=>rw [sumTo,sumTo,sumTo,ih];omega
theorem sumTo_zero (n : Nat) : sumTo n (fun _=>0) = 0:=by
  induction n with
  | zero=>rfl
  | succ n ih=>rw [sumTo,ih]
theorem sumTo_one {n x : Nat} (v : Nat) (h : x < n) : sumTo n (fun j=>if j = x then v else 0) = v:=by
  induction n with
  | zero=>omega
  | succ n ih =>
    rw [sumTo]
    by_cases e : x = n
    · subst e
      rw [if_pos rfl,sumTo_congr (f':=fun _=>0) (fun j hj=>by rw [if_neg (by omega)]),sumTo_zero];omega
    · rw [ih (by omega),if_neg (fun q=>e q.symm)];rfl
theorem sumTo_le {n : Nat} {f f' : Nat → Nat} (h : ∀ j,j < n → f j ≤ f' j) : sumTo n f ≤ sumTo n f':=by
  induction n with
  | zero=>exact Nat.le_refl _
  | succ n ih =>
    have h1:=ih (fun j hj=>h j (by omega))
    have h2:=h n (by omega)
    rw [sumTo,sumTo];omega
def pos (c : List Nat) (j : Nat) : Nat:=if j ∈ c then (c.takeWhile (· != j)).length + 1 else 0
theorem pos_split {p q : List Nat} {i : Nat} (h : i ∉ p) : pos (p ++ i :: q) i = p.length + 1:=by
  unfold pos
  rw [if_pos (by simp)]
  congr 1
  induction p with
  | nil=>simp
  | cons a p ih =>
    simp only [List.mem_cons,not_or] at h
    have : (a != i) = true:=by simpa using fun e=>h.1 e.symm
    rw [List.cons_append,List.takeWhile_cons,if_pos this,List.length_cons,ih h.2];rfl
theorem pos_not {c : List Nat} {i : Nat} (h : i ∉ c) : pos c i = 0:=by unfold pos;rw [if_neg h]
def tri : Nat → Nat
  | 0=>0
  | n + 1=>tri n + (n + 1)
theorem sum_pos {n : Nat} {c : List Nat} (hn : c.Nodup) (hl : ∀ x,x ∈ c → x < n) : sumTo n (pos c) = tri c.length ∧ sumTo n (fun j=>if j ∈ c then 1 else 0) = c.length:=by
  obtain ⟨k,hk⟩ : ∃ k,c.length = k:=⟨_,rfl⟩
  induction k generalizing c with
  | zero =>
    obtain rfl : c = []:=List.eq_nil_of_length_eq_zero hk
    constructor
    · rw [sumTo_congr (f':=fun _=>0) (fun j _=>pos_not (by simp)),sumTo_zero];rfl
    · rw [sumTo_congr (f':=fun _=>0) (fun j _=>if_neg (by simp)),sumTo_zero];rfl
  | succ k ih =>
    rcases List.eq_nil_or_concat c with e | ⟨c',x,e⟩
    · rw [e] at hk;cases hk
    · rw [List.concat_eq_append] at e
      subst e
      rw [List.nodup_append] at hn
      have hx : x ∉ c':=fun h=>hn.2.2 x h x (by simp) rfl
      have hk' : c'.length = k:=by simp at hk;omega
      obtain ⟨i1,i2⟩:=ih (c:=c') hn.1 (fun y hy=>hl y (by simp [hy])) hk'
      have hxn : x < n:=hl x (by simp)
      constructor
      · rw [sumTo_congr (f':=fun j=>pos c' j + (if j = x then k + 1 else 0)) (fun j _=>?_),sumTo_add,i1,sumTo_one _ hxn]
        · simp [hk'];rfl
        · by_cases e : j = x
          · subst e
            rw [if_pos rfl,pos_not hx,pos_split hx,hk'];omega
          · rw [if_neg e]
            by_cases h : j ∈ c'
            · obtain ⟨p,q,rfl,hp⟩:=mem_split h
              rw [List.append_assoc,List.cons_append,pos_split hp,pos_split hp]
            · rw [pos_not h,pos_not (by simp [h,e])]
      · rw [sumTo_congr (f':=fun j=>(if j ∈ c' then 1 else 0) + (if j = x then 1 else 0)) (fun j _=>?_),sumTo_add,i2,sumTo_one _ hxn]
        · simp
        · by_cases e : j = x
          · subst e;simp [hx]
          · simp [e]
def held (g : G) (n : Nat) : Nat:=sumTo n (fun j=>if g.K j = nil then 0 else 1)
end Go.Proofs.YtkmopcanaalemabGreat


namespace Go.Proofs.YtkmopcanaalemabGreat
open Go.RowKit
theorem held_new {K K' : Nat → V} {n a : Nat} (ha : a < n) (h0 : K a = nil) (h1 : K' a ≠ nil) (h2 : ∀ i,i ≠ a → (K' i = nil ↔ K i = nil)) :
    sumTo n (fun j=>if K' j = nil then 0 else 1) = sumTo n (fun j=>if K j = nil then 0 else 1) + 1:=by
  have e : sumTo n (fun j=>if K' j = nil then 0 else 1) = sumTo n (fun j=>(if K j = nil then 0 else 1) + (if j = a then 1 else 0)):=sumTo_congr fun j _=>by
    by_cases e : j = a
    · subst e;rw [if_neg h1,if_pos h0,if_pos rfl]
    · rw [if_neg e]
      by_cases e2 : K j = nil
      · rw [if_pos ((h2 j e).2 e2),if_pos e2]
      · rw [if_neg (fun q=>e2 ((h2 j e).1 q)),if_neg e2]
  rw [e,sumTo_add,sumTo_one _ ha]
theorem room_ex {K : Nat → V} {n : Nat} (h : sumTo n (fun j=>if K j = nil then 0 else 1) < n) : ∃ i,i < n ∧ K i = nil:=by
  induction n with
  | zero=>omega
  | succ n ih =>
    rw [sumTo] at h
    by_cases e : K n = nil
    · exact ⟨n,by omega,e⟩
    · rw [if_neg e] at h
      obtain ⟨i,h1,h2⟩:=ih (by omega)
      exact ⟨i,by omega,h2⟩
theorem put_new {z : Nat} {g : G} {k v : V} (hi : Inv z (pl z) KOK g) (hz : pw z = true) (hk : KOK k) (hv : fm v = true) (hv0 : v.1 ≠ 0) (hnew : ∀ i,i < z → g.K i ≠ k) (hroom : held g z < z) :
    (put z g k v).2.2 = 0 ∧ held (put z g k v).1 z = held g z + 1 ∧ ∀ i,i < z → (put z g k v).1.K i = k ∨ (put z g k v).1.K i = nil ∨ ∃ j,j < z ∧ (put z g k v).1.K i = g.K j:=by
  have hz0 : z ≠ 0:=by omega
  have hpl:=pl_lt hz k
  have hfn : ∃ n,find (pl z) g k = (none,n):=by
    cases hf : find (pl z) g k with
    | mk o n =>
      cases o with
      | none=>exact ⟨n,rfl⟩
      | some i =>
        have:=hi.find_some (fun k _=>pl_lt hz k) hk hf
        exact absurd this.1 (hnew i this.2.1)
  obtain ⟨n,hfn⟩:=hfn
  have e : put z g k v = ((ins (pl z) g k v).1,n,full (ins (pl z) g k v).2):=by
    rw [put,if_pos ⟨hk.1,hv⟩,if_neg hk.2.1,if_neg hz0,hfn]
    exact if_neg hv0
  rw [e]
  unfold held
  generalize hM : pl z k = m at *
  by_cases hE : g.K m = nil
  · have e2 : ins (pl z) g k v = (ins0 g m k v,true):=by rw [ins,hM,if_pos hE]
    rw [e2]
    refine ⟨rfl,held_new hpl hE (by show upd g.K m k m ≠ nil;rw [upd_at];exact hk.ne) (fun i hi2=>by show upd g.K m k i = nil ↔ _;rw [upd_ne _ _ hi2]),fun i hi2=>?_⟩
    show upd g.K m k i = k ∨ upd g.K m k i = nil ∨ ∃ j,j < z ∧ upd g.K m k i = g.K j
    by_cases q : i = m
    · rw [q,upd_at];exact .inl rfl
    · rw [upd_ne _ _ q];exact .inr (.inr ⟨i,hi2,rfl⟩)
  · obtain ⟨i0,hi0,hn0⟩:=room_ex hroom
    obtain ⟨a,ha⟩:=hi.room hi0 hn0
    obtain ⟨t1,t2,t3⟩:=tf_some ha
    have haz : a < z:=Nat.lt_of_lt_of_le t1 hi.fle
    have ham : a ≠ m:=fun x=>hE (x ▸ t2)
    by_cases hO : pl z (g.K m) = m
    · have e2 : ins (pl z) g k v = (ins1 g m a k v,true):=by rw [ins,hM,if_neg hE,ha];simp only;rw [if_pos hO]
      rw [e2]
      refine ⟨rfl,held_new haz t2 (by show upd g.K a k a ≠ nil;rw [upd_at];exact hk.ne) (fun i hi2=>by show upd g.K a k i = nil ↔ _;rw [upd_ne _ _ hi2]),fun i hi2=>?_⟩
      show upd g.K a k i = k ∨ upd g.K a k i = nil ∨ ∃ j,j < z ∧ upd g.K a k i = g.K j
      by_cases q : i = a
      · rw [q,upd_at];exact .inl rfl
      · rw [upd_ne _ _ q];exact .inr (.inr ⟨i,hi2,rfl⟩)
    · have e2 : ins (pl z) g k v = (ins2 g (pl z (g.K m)) m a k v,true):=by rw [ins,hM,if_neg hE,ha];simp only;rw [if_neg hO]
      rw [e2]
      refine ⟨rfl,held_new haz t2 (by show upd (upd g.K a (g.K m)) m k a ≠ nil;rw [upd_ne _ _ ham,upd_at];exact hE) (fun i hi2=>?_),fun i hi2=>?_⟩
      · show upd (upd g.K a (g.K m)) m k i = nil ↔ _
        by_cases q : i = m
        · rw [q,upd_at];exact ⟨fun x=>absurd x hk.ne,fun x=>absurd x hE⟩
        · rw [upd_ne _ _ q,upd_ne _ _ hi2]
      · show upd (upd g.K a (g.K m)) m k i = k ∨ upd (upd g.K a (g.K m)) m k i = nil ∨ ∃ j,j < z ∧ upd (upd g.K a (g.K m)) m k i = g.K j
        by_cases q : i = m
        · rw [q,upd_at];exact .inl rfl
        · rw [upd_ne _ _ q]
          by_cases q2 : i = a
          · rw [q2,upd_at];exact .inr (.inr ⟨m,hpl,rfl⟩)
          · rw [upd_ne _ _ q2];exact .inr (.inr ⟨i,hi2,rfl⟩)
end Go.Proofs.YtkmopcanaalemabGreat


namespace Go.Proofs.YtkmopcanaalemabGreat.C
open Go.RowKit
def Ints (N:Nat) (w:World) (v:Value) (l:List Int):Prop:=
 ∃a cap,v= .slice a l.length cap∧l.length≤cap∧(l≠[]→∃b off,a=some ⟨b,off,none⟩∧b<N∧∀i,i<l.length→w.cell? ⟨b,off+i,none⟩=some (.int .i64 (l.getD i 0)))
theorem Ints.below {N:Nat} {w w':World} {v:Value} {l:List Int} (h:Ints N w v l) (hb:Below N w w'):Ints N w' v l:=by
 obtain ⟨a,cap,rfl,hc,h⟩:=h
 refine ⟨a,cap,rfl,hc,fun hl=>?_⟩
 obtain ⟨b,off,rfl,hg,hx⟩:=h hl
 exact ⟨b,off,rfl,hg,fun i hi=>by rw[hb.cell (by exact hg)];exact hx i hi⟩
theorem Ints.mono {N N':Nat} {w:World} {v:Value} {l:List Int} (h:Ints N w v l) (hN:N≤N'):Ints N' w v l:=by
 obtain ⟨a,cap,rfl,hc,h⟩:=h
 refine ⟨a,cap,rfl,hc,fun hl=>?_⟩
 obtain ⟨b,off,rfl,hg,hx⟩:=h hl
 exact ⟨b,off,rfl,by omega,hx⟩
theorem Ints.go {w w':World} {v:Value} {l:List Int} (h:Ints w.heap.size w v l) (hb:Below w.heap.size w w'):Ints w'.heap.size w' v l:=(h.below hb).mono hb.size
theorem bthen {N:Nat} {w w1 w2:World} (h:Below N w w1) (hN:N≤w1.heap.size) (h2:Below w1.heap.size w1 w2):Below N w w2:=h.trans (h2.mono hN)
theorem retB {x b:Bool} (h:x=b):Ending.returned (.bool b)= .returned (.bool x):=by rw[h]
theorem ret1 {a b:Int} (h:a=b):Ending.returned (.int .i64 a)= .returned (.int .i64 b):=by rw[h]
theorem ret2 {a b c d:Int} (h:a=b) (h2:c=d):Ending.returned (.tuple #[.int .i64 a,.int .i64 c])= .returned (.tuple #[.int .i64 b,.int .i64 d]):=by rw[h,h2]
theorem ret3 {a b c d e f:Int} (h:a=b) (h2:c=d) (h3:e=f):Ending.returned (.tuple #[.int .i64 a,.int .i64 c,.int .i64 e])= .returned (.tuple #[.int .i64 b,.int .i64 d,.int .i64 f]):=by rw[h,h2,h3]
def okC (l:List Int):Bool:=l.length==17 && l.all (fun n=>decide (0≤n∧n≤4294967296))
def pre (l:List Int) (k:Nat):Int:=(l.take k).sum
def chA (l:List Int):Nat→Int
 | 0=>0
 | k+1=>if 2 ^ k<2 * pre l (k+1) then 2 ^ k else chA l k
def chN (l:List Int):Nat→Int
 | 0=>0
 | k+1=>if 2 ^ k<2 * pre l (k+1) then pre l (k+1) else chN l k
theorem pre_succ (l:List Int) (k:Nat) (h:k<l.length):pre l (k+1)=pre l k+l.getD k 0:=by
 have e:l.take (k+1)=l.take k++[l.getD k 0]:=by
  rw[List.take_add_one,List.getD,List.getElem?_eq_getElem h];rfl
 unfold pre
 rw[e,List.sum_append]
 simp
theorem okC_get {l:List Int} (h:okC l=true) (k:Nat) (hk:k<17):0≤l.getD k 0∧l.getD k 0≤4294967296:=by
 simp only[okC,Bool.and_eq_true,beq_iff_eq,List.all_eq_true,decide_eq_true_eq] at h
 have hk':k<l.length:=by omega
 rw[List.getD,List.getElem?_eq_getElem hk']
 exact h.2 _ (List.getElem_mem hk')
theorem okC_len {l:List Int} (h:okC l=true):l.length=17:=by
 simp only[okC,Bool.and_eq_true,beq_iff_eq] at h
 exact h.1
theorem pre_bound {l:List Int} (h:okC l=true) (k:Nat) (hk:k≤17):0≤pre l k∧pre l k≤k * 4294967296:=by
 induction k with
 | zero=>simp[pre]
 | succ k ih=>
   have h1:=ih (by omega)
   have h2:=okC_get h k (by omega)
   rw[pre_succ l k (by rw[okC_len h];omega)]
   omega
theorem pow_int (k:Nat):((2 ^ k:Nat):Int)=(2:Int) ^ k:=by simp
theorem wrap64_id (x:Int) (h0:-9223372036854775808≤x) (h1:x≤9223372036854775807):wrap64 x=x:=by unfold wrap64;omega
theorem pow_fit (k:Nat) (h:k≤62):wrap64 (2 ^ k)=2 ^ k:=by
 have h1:=Nat.pow_le_pow_right (n:=2) (by omega) h
 have h2:=pow_int k
 rw[←h2]
 generalize 2 ^ k=P at h1
 exact wrap64_id _ (by omega) (by omega)
theorem pow16 (k:Nat) (h:k≤16):(1:Int)≤2 ^ k∧(2:Int) ^ k≤65536:=by
 have h1:=Nat.pow_le_pow_right (n:=2) (by omega) h
 have h2:=pow_int k
 have h3:0<2 ^ k:=Nat.two_pow_pos k
 omega
set_option maxRecDepth 20000 in
set_option maxHeartbeats 1000000 in
theorem are_any (l:List Int) (v:Value) (w:World) (h:Ints w.heap.size w v l):
 Calls Tryz.prog 135 #[v] w fun e w'=>e= .returned (.bool (okC l))∧w'=w:=by
 obtain ⟨a,cap,rfl,hcap,h⟩:=h
 by_cases hlen:l.length=17
 ·have HC:Hid _:=h
  have HL:Hid (l≠[]):=by intro q;rw[q] at hlen;simp at hlen
  have HY:Hid (∀k,k<17→(∀j,j<k→0≤l.getD j 0∧l.getD j 0≤4294967296)→¬(0≤l.getD k 0∧l.getD k 0≤4294967296)→okC l=false):=by
   intro k hk _ hx
   rw[Bool.eq_false_iff]
   intro q
   exact hx (okC_get q k hk)
  have HN:Hid ((∀j,j<17→0≤l.getD j 0∧l.getD j 0≤4294967296)→okC l=true):=by
   intro q
   simp only[okC,Bool.and_eq_true,beq_iff_eq,List.all_eq_true,decide_eq_true_eq]
   refine ⟨hlen,fun x hx=>?_⟩
   obtain ⟨j,hj,rfl⟩:=List.getElem_of_mem hx
   have:=q j (by omega)
   rwa [List.getD,List.getElem?_eq_getElem hj] at this
  clear h hcap
  rw[hlen] at HC⊢
  clear hlen
  go_enter Tryz.func135,Tryz.ntmps135
  go_wp2
  go_loop [10] (fun i=>∃k:Nat,i= .int .i64 k∧k≤17∧Hid (∀j,j<k→0≤l.getD j 0∧l.getD j 0≤4294967296)) (fun i=>17 - (intOf i).toNat)
  case atStart=>exact ⟨0,rfl,by omega,fun j hj=>absurd hj (by omega)⟩
  case round=>
   obtain ⟨k,rfl,hk,HT⟩:=hrel
   by_cases hlt:k<17
   ·obtain ⟨g,off,rfl,hg,hc⟩:=HC.out HL.out
    have c1:=hc k hlt
    have hlt':(k:Int)<17:=by omega
    clear hc
    have HX:Hid (0≤l.getD k 0∧l.getD k 0≤4294967296→∀j,j<k+1→0≤l.getD j 0∧l.getD j 0≤4294967296):=by
     intro q j hj
     by_cases hjk:j=k
     ·subst hjk;exact q
     ·exact HT.out j (by omega)
    have HZ:Hid (¬(0≤l.getD k 0∧l.getD k 0≤4294967296)→okC l=false):=HY.out k hlt HT.out
    generalize l.getD k 0=x at c1 HX HZ
    by_cases h1:x<0
    ·have HF:Hid (okC l=false):=HZ.out (by omega)
     go_wp2
     go_ret
     exact ⟨retB HF.out,rfl⟩
    ·by_cases h2:4294967296<x
     ·have HF:Hid (okC l=false):=HZ.out (by omega)
      go_wp2
      go_ret
      exact ⟨retB HF.out,rfl⟩
     ·have HX2:=HX.out (by omega)
      have HT2:Hid _:=HX2
      clear HX2 HX HZ
      go_wp2
      go_round
      case rel=>exact ⟨k+1,by go_num,by omega,HT2⟩
      case measure=>simp[intOf];omega
   ·obtain rfl:k=17:=by omega
    go_wp2
    go_ret
    exact ⟨retB (HN.out HT.out),rfl⟩
 ·have HN:Hid (okC l=false):=by
   rw[show (okC l=false)=_ from rfl,Bool.eq_false_iff]
   intro q;exact hlen (okC_len q)
  clear h hcap
  have hlen':¬(l.length:Int)=17:=by omega
  generalize l.length=L at *
  go_enter Tryz.func135,Tryz.ntmps135
  go_wp2
  go_ret
  exact ⟨retB HN.out,rfl⟩
theorem chA_succ (l:List Int) (k:Nat):chA l (k+1)=if 2 ^ k<2 * pre l (k+1) then 2 ^ k else chA l k:=rfl
theorem chN_succ (l:List Int) (k:Nat):chN l (k+1)=if 2 ^ k<2 * pre l (k+1) then pre l (k+1) else chN l k:=rfl
set_option maxRecDepth 20000 in
set_option maxHeartbeats 1000000 in
theorem choose_ok (l:List Int) (v:Value) (w:World) (h:Ints w.heap.size w v l) (hok:okC l=true):
 Calls Tryz.prog 128 #[v] w fun e w'=>e= .returned (.tuple #[.int .i64 (chA l 17),.int .i64 (chN l 17),.int .i64 0])∧w'=w:=by
 have C1:=are_any l v w h
 rw[hok] at C1
 obtain ⟨a,cap,rfl,hcap,h⟩:=h
 have HC:Hid _:=h
 have HL:Hid (l≠[]):=by intro q;have:=okC_len hok;rw[q] at this;simp at this
 have HG:Hid (∀k,k<17→0≤l.getD k 0∧l.getD k 0≤4294967296):=fun k hk=>okC_get hok k hk
 have HB:Hid (∀k,k≤17→0≤pre l k∧pre l k≤k * 4294967296):=fun k hk=>pre_bound hok k hk
 have HS:Hid (∀k,k<17→pre l (k+1)=pre l k+l.getD k 0):=fun k hk=>pre_succ l k (by rw[okC_len hok];exact hk)
 clear h hcap
 rw[okC_len hok] at HC C1⊢
 clear hok
 go_enter Tryz.func128,Tryz.ntmps128
 go_wp2_with (go_at_call 135;refine C1.mono ?_;rintro e w' ⟨rfl,rfl⟩)
 go_loop [5,6,7,16] (fun a n s i=>∃k:Nat,i= .int .i64 k∧k≤17∧∃x y z:Int,a= .int .i64 x∧n= .int .i64 y∧s= .int .i64 z∧Hid (x=chA l k∧y=chN l k∧z=pre l k)) (fun _ _ _ i=>17 - (intOf i).toNat)
 case atStart=>exact ⟨0,rfl,by omega,0,0,0,rfl,rfl,rfl,rfl,rfl,rfl⟩
 case round=>
  obtain ⟨k,rfl,hk,A,N,S,rfl,rfl,rfl,HT⟩:=hrel
  by_cases hlt:k<17
  ·obtain ⟨g,off,rfl,hg,hc⟩:=HC.out HL.out
   have c1:=hc k hlt
   have hlt':(k:Int)<17:=by omega
   clear hc
   have hx:=HG.out k hlt
   have hS:=HB.out k (by omega)
   rw[←HT.out.2.2] at hS
   have hS1:S≤73014444032:=by
    have:=hS.2
    have :(k:Int) * 4294967296≤17 * 4294967296:=Int.mul_le_mul_of_nonneg_right (by omega) (by omega)
    omega
   have HN:Hid (pre l (k+1)=S+l.getD k 0):=by rw[HT.out.2.2];exact HS.out k hlt
   have hp:=pow_fit k (by omega)
   have hp2:=pow16 k (by omega)
   have HA:Hid (∀P:Int,(2:Int) ^ k=P→P<2 * (S+l.getD k 0)→P=chA l (k+1)∧S+l.getD k 0=chN l (k+1)∧S+l.getD k 0=pre l (k+1)):=by
    intro P hP hq
    rw[chA_succ,chN_succ,HN.out,hP,if_pos hq,if_pos hq]
    exact ⟨rfl,rfl,rfl⟩
   have HB:Hid (∀P:Int,(2:Int) ^ k=P→¬P<2 * (S+l.getD k 0)→A=chA l (k+1)∧N=chN l (k+1)∧S+l.getD k 0=pre l (k+1)):=by
    intro P hP hq
    rw[chA_succ,chN_succ,HN.out,hP,if_neg hq,if_neg hq]
    exact ⟨HT.out.1,HT.out.2.1,rfl⟩
   have hS0:=hS.1
   clear hS HN HT
   generalize l.getD k 0=x at *
   by_cases hq:(2:Int) ^ k<2 * (S+x)
   ·have HR:Hid _:=HA.out _ rfl hq
    clear HA HB
    go_wp2
    go_round
    case rel=>exact ⟨k+1,by go_num,by omega,_,_,_,rfl,rfl,rfl,HR⟩
    case measure=>simp[intOf];omega
   ·have HR:Hid _:=HB.out _ rfl hq
    clear HA HB
    go_wp2
    go_round
    case rel=>exact ⟨k+1,by go_num,by omega,_,_,_,rfl,rfl,rfl,HR⟩
    case measure=>simp[intOf];omega
  ·obtain rfl:k=17:=by omega
   go_wp2
   go_ret3
   exact ⟨ret3 HT.out.1 HT.out.2.1 rfl,rfl⟩
end Go.Proofs.YtkmopcanaalemabGreat.C


namespace Go.Proofs
open Go.Shelf
def Tryz.lays129_ren : Go.Shelf.Ren:=⟨fun | 129=>112 | n=>n,fun | 53=>55 | 3=>3 | 4=>4 | 46=>173 | 5=>5 | 9=>9 | n=>n,fun | n=>n⟩
theorem Tryz.lays129 : Go.Proofs.Lays.n129 Tryz.prog Tryz.lays129_ren:={
  mixed:=by kernel_rfl
  f129:=Tryz.func112.trans (congrArg some (by kernel_rfl))
  t3:=Tryz.underlying3
  a3:=Tryz.isAgg3
  z3:=Tryz.sizeOf3
  v3:=Tryz.zeroValue3
  t4:=Tryz.underlying4
  a4:=Tryz.isAgg4
  z4:=Tryz.sizeOf4
  v4:=Tryz.zeroValue4
  t5:=Tryz.underlying5
  a5:=Tryz.isAgg5
  z5:=Tryz.sizeOf5
  v5:=Tryz.zeroValue5
  t9:=Tryz.underlying9
  a9:=Tryz.isAgg9
  z9:=Tryz.sizeOf9
  v9:=Tryz.zeroValue9
  t46:=Tryz.underlying173
  a46:=Tryz.isAgg173
  z46:=Tryz.sizeOf173
  v46:=Tryz.zeroValue173
  t53:=Tryz.underlying55
  a53:=Tryz.isAgg55
  z53:=Tryz.sizeOf55
  v53:=Tryz.zeroValue55 }
theorem Tryz.bits_Len64 (x : Int) (w : World) (h0 : 0 ≤ x) (h1 : x ≤ 18446744073709551615) :
    Calls Tryz.prog 112 #[.int .u64 x] w fun e w'=>e = .returned (.int .i64 (Lib.bitLen x.toNat)) ∧ w' = w:=Any.bits_Len64 Tryz.lays129 x w h0 h1
def Tryz.lays189_ren : Go.Shelf.Ren:=⟨fun | 189=>134 | 125=>139 | 257=>138 | 128=>149 | 129=>112 | 294=>140 | 295=>141 | 296=>142 | 297=>143 | 298=>144 | 299=>145 | 216=>146 | 300=>147 | 301=>148 | 328=>150 | 329=>151 | 330=>152 | 331=>153 | 332=>154 | 215=>155 | 343=>156 | n=>n,fun | 28=>46 | 3=>3 | 46=>173 | 0=>0 | 51=>179 | 53=>55 | 4=>4 | 183=>185 | 182=>184 | 131=>190 | 5=>5 | 9=>9 | 218=>193 | 222=>197 | 228=>199 | 229=>134 | n=>n,fun | n=>n⟩
theorem Tryz.lays189 : Go.Proofs.Lays.n189 Tryz.prog Tryz.lays189_ren:={
  mixed:=by kernel_rfl
  f125:=Tryz.func139.trans (congrArg some (by kernel_rfl))
  f128:=Tryz.func149.trans (congrArg some (by kernel_rfl))
  f129:=Tryz.func112.trans (congrArg some (by kernel_rfl))
  f189:=Tryz.func134.trans (congrArg some (by kernel_rfl))
  f215:=Tryz.func155.trans (congrArg some (by kernel_rfl))
  f216:=Tryz.func146.trans (congrArg some (by kernel_rfl))
  f257:=Tryz.func138.trans (congrArg some (by kernel_rfl))
  f294:=Tryz.func140.trans (congrArg some (by kernel_rfl))
  f295:=Tryz.func141.trans (congrArg some (by kernel_rfl))
  f296:=Tryz.func142.trans (congrArg some (by kernel_rfl))
  f297:=Tryz.func143.trans (congrArg some (by kernel_rfl))
  f298:=Tryz.func144.trans (congrArg some (by kernel_rfl))
  f299:=Tryz.func145.trans (congrArg some (by kernel_rfl))
  f300:=Tryz.func147.trans (congrArg some (by kernel_rfl))
  f301:=Tryz.func148.trans (congrArg some (by kernel_rfl))
  f328:=Tryz.func150.trans (congrArg some (by kernel_rfl))
  f329:=Tryz.func151.trans (congrArg some (by kernel_rfl))
  f330:=Tryz.func152.trans (congrArg some (by kernel_rfl))
  f331:=Tryz.func153.trans (congrArg some (by kernel_rfl))
  f332:=Tryz.func154.trans (congrArg some (by kernel_rfl))
  f343:=Tryz.func156.trans (congrArg some (by kernel_rfl))
  t0:=Tryz.underlying0
  a0:=Tryz.isAgg0
  z0:=Tryz.sizeOf0
  v0:=Tryz.zeroValue0
  t3:=Tryz.underlying3
  a3:=Tryz.isAgg3
  z3:=Tryz.sizeOf3
  v3:=Tryz.zeroValue3
  t4:=Tryz.underlying4
  a4:=Tryz.isAgg4
  z4:=Tryz.sizeOf4
  v4:=Tryz.zeroValue4
  t5:=Tryz.underlying5
  a5:=Tryz.isAgg5
  z5:=Tryz.sizeOf5
  v5:=Tryz.zeroValue5
  t9:=Tryz.underlying9
  a9:=Tryz.isAgg9
  z9:=Tryz.sizeOf9
  v9:=Tryz.zeroValue9
  t28:=Tryz.underlying46
  a28:=Tryz.isAgg46
  z28:=Tryz.sizeOf46
  v28:=Tryz.zeroValue46
  t46:=Tryz.underlying173
  a46:=Tryz.isAgg173
  z46:=Tryz.sizeOf173
  v46:=Tryz.zeroValue173
  t51:=Tryz.underlying179
  a51:=Tryz.isAgg179
  z51:=Tryz.sizeOf179
  v51:=Tryz.zeroValue179
  t53:=Tryz.underlying55
  a53:=Tryz.isAgg55
  z53:=Tryz.sizeOf55
  v53:=Tryz.zeroValue55
  t131:=Tryz.underlying190
  a131:=Tryz.isAgg190
  z131:=Tryz.sizeOf190
  v131:=Tryz.zeroValue190
  t182:=Tryz.underlying184
  a182:=Tryz.isAgg184
  z182:=Tryz.sizeOf184
  v182:=Tryz.zeroValue184
  t183:=Tryz.underlying185
  a183:=Tryz.isAgg185
  z183:=Tryz.sizeOf185
  v183:=Tryz.zeroValue185
  t218:=Tryz.underlying193
  a218:=Tryz.isAgg193
  z218:=Tryz.sizeOf193
  v218:=Tryz.zeroValue193
  t222:=Tryz.underlying197
  a222:=Tryz.isAgg197
  z222:=Tryz.sizeOf197
  v222:=Tryz.zeroValue197
  t228:=Tryz.underlying199
  a228:=Tryz.isAgg199
  z228:=Tryz.sizeOf199
  v228:=Tryz.zeroValue199
  t229:=Tryz.underlying134
  a229:=Tryz.isAgg134
  z229:=Tryz.sizeOf134
  v229:=Tryz.zeroValue134 }
open Go.Sort Go.RowKit in
theorem Tryz.slices_Sort_int (blk off cap : Nat) (zs : List Int) (w : World) (hH : Holds (Value.int .i64) w blk off zs.toArray) (hblk : blk < w.heap.size) (hsz : zs.length < 4611686018427387904) :
    Calls Tryz.prog 134 #[.slice (some ⟨blk,off,none⟩) zs.length cap] w fun e w' =>
      e = .returned (.tuple #[]) ∧ ∃ n os,w' = grow (putRow (Value.int .i64) (Sort.ahead w n) blk off (zs.mergeSort fun x y=>decide (x ≤ y)).toArray) os:=Any.slices_Sort_int Tryz.lays189 blk off cap zs w hH hblk hsz
def Tryz.laysNm215_ren : Go.Shelf.Ren:=⟨fun | 15=>133 | n=>n,fun | 22=>46 | 3=>3 | 4=>4 | n=>n,fun | n=>n⟩
theorem Tryz.laysNm215 : Go.Proofs.Lays2.n15 Tryz.prog Tryz.laysNm215_ren:={
  mixed:=by kernel_rfl
  f15:=Tryz.func133.trans (congrArg some (by kernel_rfl))
  t3:=Tryz.underlying3
  a3:=Tryz.isAgg3
  z3:=Tryz.sizeOf3
  v3:=Tryz.zeroValue3
  t4:=Tryz.underlying4
  a4:=Tryz.isAgg4
  z4:=Tryz.sizeOf4
  v4:=Tryz.zeroValue4
  t22:=Tryz.underlying46
  a22:=Tryz.isAgg46
  z22:=Tryz.sizeOf46
  v22:=Tryz.zeroValue46
  i3:=by kernel_rfl }
open Go.RowKit Go.Lib in
theorem Tryz.slices_Clone_int (b off n c : Nat) (zs : List Int) (w : World) (hz : n ≤ zs.length) (hbig : n * 8 ≤ 140737488355328) (hc : ∀ j,j < zs.length → w.cell? ⟨b,off + j,none⟩ = some (.int .i64 (zs.getD j 0))) :
    Calls Tryz.prog 133 #[.slice (some ⟨b,off,none⟩) n c] w fun e w'=>∃ v',e = .returned v' ∧ w'.ownsRow w.heap.size 3 1 v' n ((zs.take n).map (Value.int .i64)) ∧ v' ≠ .slice none 0 0 ∧ Below w.heap.size w w':=Any.slices_Clone_int Tryz.laysNm215 b off n c zs w hz hbig hc
open Go.RowKit Go.Lib in
theorem Tryz.slices_Clone_int_nil (n c : Nat) (w : World) :
    Calls Tryz.prog 133 #[.slice none n c] w fun e w'=>e = .returned (.slice none 0 0) ∧ w' = w:=Any.slices_Clone_int_nil Tryz.laysNm215 n c w
open Go.RowKit Go.Lib in
theorem Tryz.slices_Clone_int_zero (a : Addr) (c : Nat) (w : World) :
    Calls Tryz.prog 133 #[.slice (some a) 0 c] w fun e w'=>∃ v',e = .returned v' ∧ w'.ownsRow w.heap.size 3 1 v' 0 [] ∧ v' ≠ .slice none 0 0 ∧ Below w.heap.size w w':=Any.slices_Clone_int_zero Tryz.laysNm215 a c w
open Go.RowKit Go.Sort in
theorem Tryz.slices_Sort_int_none (p : Option Addr) (cap : Nat) (w : World) :
    Calls Tryz.prog 134 #[.slice p 0 cap] w fun e w'=>e = .returned (.tuple #[]) ∧ w' = w:=Any.slices_Sort_int_none Tryz.lays189 p cap w
end Go.Proofs

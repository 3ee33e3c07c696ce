import Derived.Test.YtlgkfhipobdcfaaGreatDoorCg47
import Derived.Test.YtlgkfhipobdcfaaGreatDoorCg06
import Derived.Deep.QuietTactic
import Derived.BigQuiet
import Derived.Test.YtlgkfhipobdcfaaGreatDoorCg05
namespace Go.Proofs.YtlgkfhipobdcfaaGreatDoor
open Go.RowKit
def TX (o : Nat) : QR → Value
  | .ok v n=>.tuple #[.string ⟨v.toArray⟩,.int .i64 n,.agg #[.int .i64 0,.int .i64 0]]
  | .bad c x=>.tuple #[.string ⟨#[]⟩,.int .i64 0,.agg #[.int .i64 c,.int .i64 ((o + x : Nat) : Int)]]
theorem bdrewN' (B : Nat) (w : World) (n : Nat) : Below B w (w.drewN n):=⟨rfl,rfl,rfl,Nat.le_refl _,fun _ _=>rfl⟩
theorem own_snoc {w : World} {base n : Nat} {v : Value} {acc l : List UInt8} (h : w.ownsRow base 5 1 v n (Lib.byteCells acc ++ Lib.byteCells l)) (hn : n = acc.length + l.length) : w.ownsRow base 5 1 v (acc ++ l).length (Lib.byteCells (acc ++ l)):=by
  rw [hn] at h
  rw [List.length_append,Lib.byteCells_append];exact h
set_option maxRecDepth 20000 in
set_option maxHeartbeats 8000000 in
theorem text_any (s : ByteArray) (o : Nat) (w : World) (ho : o < s.size) (hs : s.size ≤ 20000) (q : UInt8) (hq : s[o] = q) (hqv0 : q.toNat = 39 ∨ q.toNat = 34) :
    Calls Tryz.prog 42 #[.string s,.int .i64 o] w fun e W'=>e = .returned (TX o (qt q (LD s (o + 1)) 1 [])) ∧ Below w.heap.size w W':=by
  have hqv:=hqv0
  obtain ⟨i5,hi5,hy0,hy1,hy2⟩:=info_parts W.Tryz.info5
  obtain ⟨R,hR⟩ : ∃ R,qt q (LD s (o + 1)) 1 [] = R:=⟨_,rfl⟩
  have HR0 : Hid (qt q (LD s (o + 1)) (o + 1 - o) [] = R):=by show _ = _;rw [show o + 1 - o = 1 by omega];exact hR
  rw [hR]
  have hqn : s[o].toNat = q.toNat:=by rw [hq]
  obtain ⟨qn,hqq⟩ : ∃ qn,q.toNat = qn:=⟨_,rfl⟩
  rw [hqq] at hqn hqv
  have HQ : Hid (q.toNat = qn):=hqq
  obtain ⟨W1,hW1⟩ : ∃ W1,w.alloc (.cells #[.int .i64 0,.int .i64 0] 27) = W1:=⟨_,rfl⟩
  have z1 : W1.heap.size = w.heap.size + 1:=by rw [← hW1];simp
  have c0 : W1.cell? ⟨w.heap.size,0,none⟩ = some (.int .i64 0):=by rw [← hW1];simp [go_sem]
  have c1 : W1.cell? ⟨w.heap.size,1,none⟩ = some (.int .i64 0):=by rw [← hW1];simp [go_sem]
  have d0 : W1.frozen? ⟨w.heap.size,0,none⟩ = false:=by rw [← hW1];simp [go_sem]
  have d1 : W1.frozen? ⟨w.heap.size,1,none⟩ = false:=by rw [← hW1];simp [go_sem]
  have hB1 : Below w.heap.size w W1:=by rw [← hW1];exact (Below.refl _ _).alloc (Nat.le_refl _) _
  have fin : ∀ (W W' : World) (x y : Value),Below W1.heap.size W1 W → W' = (W.setCell ⟨w.heap.size,0,none⟩ x).setCell ⟨w.heap.size,1,none⟩ y → Below w.heap.size w W':=fun W W' x y hb he=>by
    subst he
    exact ((hB1.trans (hb.mono (by omega))).setCell (Nat.le_refl _) _).setCell (Nat.le_refl _) _
  have FIN : Hid _:=fin
  clear hR hq hqq fin
  go_enter Tryz.func42,Tryz.ntmps42
  go_wp2_with fail
  go_loopg [7,8] (s.size + 1) (fun gf v7 v8 wx=>∃ (i : Nat) (acc : List UInt8),o < i ∧ i ≤ s.size ∧ v8 = .int .i64 i ∧ wx.ownsRow W1.heap.size 5 1 v7 acc.length (Lib.byteCells acc) ∧ Below W1.heap.size W1 wx ∧ acc.length ≤ 4 * i ∧ Hid (qt q (LD s i) (i - o) acc = R) ∧ s.size < i + gf)
  case atStart=>exact ⟨o + 1,[],by omega,by omega,rfl,World.ownsRow_nil _ _ _ _,Below.refl _ _,by simp,HR0,by omega⟩
  case round =>
    obtain ⟨i,acc,hoi,his,rfl,hown,hB,hacc,hI,hfu⟩:=hrel
    obtain ⟨av,cv,rfl⟩:=slice_shape hown
    have hzB:=hB.size
    have k0:=(hB.cell (p:=⟨w.heap.size,0,none⟩) (by show w.heap.size < _;omega)).trans c0
    have k1:=(hB.cell (p:=⟨w.heap.size,1,none⟩) (by show w.heap.size < _;omega)).trans c1
    have f0:=(hB.frozen (p:=⟨w.heap.size,0,none⟩) (by show w.heap.size < _;omega)).trans d0
    have f1:=(hB.frozen (p:=⟨w.heap.size,1,none⟩) (by show w.heap.size < _;omega)).trans d1
    have io0 : (0 : Int) ≤ (o : Int):=Int.natCast_nonneg _
    have io1 : (o : Int) < (s.size : Int):=by omega
    have ii0 : (0 : Int) ≤ (i : Int):=Int.natCast_nonneg _
    by_cases hlt : i < s.size
    · obtain ⟨g',rfl⟩ : ∃ g',gk = g' + 1:=⟨gk - 1,by omega⟩
      have ii1 : (i : Int) < (s.size : Int):=by omega
      obtain ⟨c,hc⟩:=LD_cons s i hlt
      have hcs : s[i] = c:=by
        have:=LD_head s i hlt
        rw [hc] at this;exact this.symm
      obtain ⟨cn,hcn⟩ : ∃ cn,s[i].toNat = cn:=⟨_,rfl⟩
      have hccn : c.toNat = cn:=by rw [← hcs,hcn]
      rw [hc] at hI
      by_cases h10 : cn = 10
      · have HR : Hid (R = .bad 4 0):=by show _ = _;rw [← hI.out,qt_nl q c _ _ _ (by rw [hccn,h10])]
        have b10 : ((cn : Int) != 10) = false:=by simp;omega
        have b10' : ((cn : Int) == 10) = true:=by simp;omega
        clear hI
        go_wp2_with fail
        go_quiet (fail)
        go_wp2
        exact bodyPost_ret (v:=.tuple #[.string ⟨#[]⟩,.int .i64 0,.agg #[.int .i64 4,.int .i64 o]]) (by simp [results,Tryz.results42,go_sem,k0,k1]) rfl ⟨by rw [HR.out];rfl,FIN.out _ _ _ _ (hB.trans (bdrewN' _ _ _)) rfl⟩
      · have b10 : ((cn : Int) != 10) = true:=by simp;omega
        have b10' : ((cn : Int) == 10) = false:=by simp;omega
        by_cases hcq : cn = qn
        · have hR:=hI.out
          rw [qt_end q c _ _ _ (UInt8.toNat_inj.1 (by rw [hccn,HQ.out,hcq])) (by rw [HQ.out];omega)] at hR
          have bq : ((cn : Int) != (qn : Int)) = false:=by simp;omega
          have q10 : ((qn : Int) != 10) = true:=by simp;omega
          have q10' : ((qn : Int) == 10) = false:=by simp;omega
          have qqq : ((qn : Int) != (qn : Int)) = false:=by simp
          have hcv:=fun n=>conv_row (W:=wr.drewN n) hown
          have HR : Hid (R = if 10000 < acc.length then .bad 14 0 else .ok acc (i - o + 1)):=hR.symm
          clear hI hR
          by_cases hbig : 10000 < acc.length
          · have HR : Hid (R = .bad 14 0):=by have:=HR.out;rw [if_pos hbig] at this;exact this
            go_wp2_with fail
            go_quiet (fail)
            go_wp2
            exact bodyPost_ret (v:=.tuple #[.string ⟨#[]⟩,.int .i64 0,.agg #[.int .i64 14,.int .i64 o]]) (by simp [results,Tryz.results42,go_sem,k0,k1]) rfl ⟨by rw [HR.out];rfl,FIN.out _ _ _ _ (hB.trans (bdrewN' _ _ _)) rfl⟩
          · have HR : Hid (R = .ok acc (i - o + 1)):=by have:=HR.out;rw [if_neg hbig] at this;exact this
            go_wp2_with fail
            go_quiet (fail)
            go_wp2
            have e8 : (i : Int) + 1 - o = ((i - o + 1 : Nat) : Int):=by omega
            exact bodyPost_ret (v:=.tuple #[.string ⟨acc.toArray⟩,.int .i64 ((i : Int) + 1 - o),.agg #[.int .i64 0,.int .i64 0]]) (by simp [results,Tryz.results42,go_sem,k0,k1]) rfl ⟨by rw [HR.out,e8];rfl,FIN.out _ _ _ _ (hB.trans (bdrewN' _ _ _)) rfl⟩
        · have bq : ((cn : Int) != (qn : Int)) = true:=by simp;omega
          have hcq' : ¬ c = q:=fun e=>hcq (by rw [← hccn,← HQ.out,e])
          by_cases h92 : cn = 92
          · have b92 : ((cn : Int) != 92) = false:=by simp;omega
            have hR:=hI.out
            rw [qt_esc q c _ _ _ (by rw [hccn,h92]) (by rw [HQ.out];omega)] at hR
            have HRE : Hid _:=hR
            clear hI hR
            by_cases h1 : i + 1 < s.size
            · have hne:=LD_ne s (i + 1) h1
              have CE:=fun w=>resc_any s i w h1 hs
              obtain ⟨t1,t2⟩:=esc_take (LD s (i + 1))
              have t3:=esc_le (LD s (i + 1))
              rw [LD_len] at t1
              clear t2
              by_cases hz : (esc (LD s (i + 1))).2 = 0
              · have HR : Hid (R = .bad 4 (i - o)):=by have:=HRE.out;rw [if_neg hne,if_pos hz] at this;exact this.symm
                clear HRE
                go_wp2_with fail
                go_quiet (fail)
                go_wp2_with (go_at_call 71;refine (CE _).mono ?_;rintro e w4 ⟨hb4,hA1,hA2⟩;obtain ⟨v4,he⟩:=hA1 hz;subst he;have j0:=(hb4.cell (p:=⟨w.heap.size,0,none⟩) (by show w.heap.size < wr.heap.size;omega)).trans k0;have j1:=(hb4.cell (p:=⟨w.heap.size,1,none⟩) (by show w.heap.size < wr.heap.size;omega)).trans k1;have l0:=(hb4.frozen (p:=⟨w.heap.size,0,none⟩) (by show w.heap.size < wr.heap.size;omega)).trans f0;have l1:=(hb4.frozen (p:=⟨w.heap.size,1,none⟩) (by show w.heap.size < wr.heap.size;omega)).trans f1)
                have e7 : o + (i - o) = i:=by omega
                exact bodyPost_ret (v:=.tuple #[.string ⟨#[]⟩,.int .i64 0,.agg #[.int .i64 4,.int .i64 i]]) (by simp [results,Tryz.results42,go_sem,j0,j1]) rfl ⟨by rw [HR.out];simp only [TX,e7],FIN.out _ _ _ _ ((hB.trans (bdrewN' _ _ _)).trans (hb4.mono hzB)) rfl⟩
              · have HN : Hid (qt q (LD s (i + 1 + (esc (LD s (i + 1))).2)) (i + 1 + (esc (LD s (i + 1))).2 - o) (acc ++ (esc (LD s (i + 1))).1) = R):=by
                  show _ = _
                  have:=HRE.out
                  rw [if_neg hne,if_neg hz,LD_drop] at this
                  rw [← this]
                  congr 1;omega
                clear HRE
                obtain ⟨y,hy⟩ : ∃ y,esc (LD s (i + 1)) = y:=⟨_,rfl⟩
                rw [hy] at CE HN hz t1 t3
                obtain ⟨y1,y2⟩:=y
                simp only at CE HN hz t1 t3
                clear hy
                have hzb : (((y2 + 1 : Nat) : Int) == 0) = false:=by rw [beq_eq_false_iff_ne];omega
                go_wp2_with fail
                go_quiet (fail)
                go_wp2_with (first
                  | (go_at_call 71;refine (CE _).mono ?_;rintro e w4 ⟨hb4,hA1,hA2⟩;obtain ⟨g4,cap4,he,hcell4⟩:=hA2 hz;subst he;have hzz4 : wr.heap.size ≤ w4.heap.size:=hb4.size;have ho4:=own_below (w:=wr.drewN _) hown hb4)
                  | (at_builtin;refine wpList_append_own _ rfl _ _ 72 rfl W1.heap.size 5 i5 (.int .u8 0) 1 1 Tryz.underlying72 hi5 hy0 hy1 hy2 rfl (by decide) (.slice av acc.length cv) acc.length (Lib.byteCells acc) rfl ho4 ⟨g4,0,none⟩ y1.length cap4 (Lib.byteCells y1) rfl (by simp [Lib.byteCells]) ?c1 ?c2 ?c3 ?c4 ?c5 ?_))
                case c1 =>
                  intro j u hj
                  have:=hcell4 j u hj
                  by_cases hj0 : j = 0
                  · subst hj0;simpa [Addr.add] using this
                  · simpa [Addr.add,hj0] using this
                case c2=>exact Lib.byteCells_one y1
                case c3=>unfold maxLen;omega
                case c4=>omega
                case c5=>omega
                intro v5 w5 ho5 hg5 _
                have ho6:=own_snoc ho5 rfl
                have hB5 : Below W1.heap.size W1 w5:=((hB.trans (bdrewN' _ _ _)).trans (hb4.mono hzB)).grown hg5 (by omega) (fun k hk=>(ho4.lt k hk).1)
                obtain ⟨a6,c6,rfl⟩:=slice_shape ho6
                clear ho5 hg5
                go_wp2
                go_roundg g'
                case measure=>omega
                case rel=>exact ⟨i + 1 + y2,acc ++ y1,by omega,by omega,by congr 1;omega,(by rw [z1];exact ho6),hB5,by simp;omega,HN,by omega⟩
            · have HR : Hid (R = .bad 4 0):=by have:=HRE.out;rw [if_pos (LD_nil s _ h1)] at this;exact this.symm
              clear HRE
              go_wp2_with fail
              go_quiet (fail)
              go_wp2
              exact bodyPost_ret (v:=.tuple #[.string ⟨#[]⟩,.int .i64 0,.agg #[.int .i64 4,.int .i64 o]]) (by simp [results,Tryz.results42,go_sem,k0,k1]) rfl ⟨by rw [HR.out];rfl,FIN.out _ _ _ _ (hB.trans (bdrewN' _ _ _)) rfl⟩
          · have b92 : ((cn : Int) != 92) = true:=by simp;omega
            have hp:=qt_pass q 1 (c :: LD s (i + 1)) (i - o) acc (by simp) (fun x hx=>by
              simp at hx;subst hx;exact ⟨by omega,hcq',by omega⟩)
            have HN : Hid (qt q (LD s (i + 1)) (i + 1 - o) (acc ++ [c]) = R):=by
              show _ = _
              rw [← hI.out,hp]
              simp only [List.drop_succ_cons,List.drop_zero,List.take_succ_cons,List.take_zero]
              congr 1;omega
            clear hI hp
            go_wp2_with fail
            go_quiet (fail)
            go_wp2_with (at_builtin;refine wpList_append_own _ rfl _ _ 72 rfl W1.heap.size 5 i5 (.int .u8 0) 1 1 Tryz.underlying72 hi5 hy0 hy1 hy2 rfl (by decide) (.slice av acc.length cv) acc.length (Lib.byteCells acc) rfl (World.ownsRow.alloc (w:=wr.drewN _) hown _) ⟨wr.heap.size,0,none⟩ 1 1 [.int .u8 cn] rfl rfl ?c1 ?c2 ?c3 ?c4 ?c5 ?_)
            case c1 =>
              intro j u hj
              match j,hj with
              | 0,hj=>simp at hj;subst hj;exact (new_cell (wr.drewN _) [.int .u8 cn] 5 0 _ rfl).1
            case c2=>intro u hu;simp at hu;subst hu;rfl
            case c3=>unfold maxLen;omega
            case c4=>omega
            case c5=>simp;omega
            intro v5 w5 ho5 hg5 _
            have hcc : [Value.int .u8 (cn : Int)] = Lib.byteCells [c]:=by simp [Lib.byteCells,hccn]
            rw [hcc] at ho5
            have ho6:=own_snoc ho5 rfl
            have hB5 : Below W1.heap.size W1 w5:=((hB.trans (bdrewN' _ _ _)).alloc (by exact hzB) _).grown hg5 (by simp;omega) (fun k hk=>(hown.lt k hk).1)
            obtain ⟨a6,c6,rfl⟩:=slice_shape ho6
            clear ho5 hg5
            go_wp2
            go_roundg g'
            case measure=>omega
            case rel=>exact ⟨i + 1,acc ++ [c],by omega,by omega,by go_num,(by rw [z1];exact ho6),hB5,by simp;omega,HN,by omega⟩
    · have HR : Hid (R = .bad 4 0):=by show _ = _;rw [← hI.out,LD_nil s i hlt,qt_nil]
      clear hI
      go_wp2_with fail
      go_quiet (fail)
      go_wp2
      exact bodyPost_ret (v:=.tuple #[.string ⟨#[]⟩,.int .i64 0,.agg #[.int .i64 4,.int .i64 o]]) (by simp [results,Tryz.results42,go_sem,k0,k1]) rfl ⟨by rw [HR.out];rfl,FIN.out _ _ _ _ (hB.trans (bdrewN' _ _ _)) rfl⟩
end Go.Proofs.YtlgkfhipobdcfaaGreatDoor


namespace Go.Proofs.YtlgkfhipobdcfaaGreatDoor
open Go.RowKit
theorem spn_nl (l : List UInt8) : spn (fun r=>decide (r ≠ 10)) l = (l.takeWhile fun c=>decide (c.toNat ≠ 10)).length:=by
  match l with
  | []=>rw [spn_nil];rfl
  | c :: t =>
    by_cases h10 : c.toNat = 10
    · have:=asc c t (by omega)
      rw [spn_no _ _ (by simp) (by rw [this.1];simp [h10])]
      simp [h10]
    · have hr : rnL (c :: t) ≠ 10:=fun e=>h10 (by have:=rn_lt c t (by omega);omega)
      have hw:=wdL_pos (c :: t)
      have hl:=wdL_le (c :: t) (by simp)
      rw [spn_yes _ _ (by simp) (by simpa using hr)]
      have hall : ∀ x ∈ (c :: t).take (wdL (c :: t)),(decide (x.toNat ≠ 10)) = true:=fun x hx=>by
        rcases Nat.lt_or_ge c.toNat 128 with h1 | h1
        · have h2:=(asc c t h1).2
          rw [h2] at hx
          simp at hx;subst hx;simpa using h10
        · have:=hi_bytes c t h1 x hx
          simp;omega
      have hsp : c :: t = (c :: t).take (wdL (c :: t)) ++ (c :: t).drop (wdL (c :: t)):=(List.take_append_drop _ _).symm
      have ih:=spn_nl ((c :: t).drop (wdL (c :: t)))
      rw [ih]
      conv=>rhs;rw [hsp]
      rw [List.takeWhile_append_of_pos hall,List.length_append,List.length_take]
      omega
termination_by l.length
decreasing_by simp only [List.length_drop,List.length_cons] at *;omega
theorem Tryz.info63 : (Tryz.prog.info? 63).map (fun i=>(i.zero,i.size,i.bytes)) = some (some (.agg #[.int .i64 0,.string ⟨#[]⟩,.int .i64 0,.int .i64 0]),4,40):=by kernel_rfl
set_option maxRecDepth 20000 in
set_option maxHeartbeats 2000000 in
theorem rScan_big (s : ByteArray) (w : World) (hb : 20000 < s.size) (hs : s.size ≤ 9223372036854775807) :
    Calls Tryz.prog 23 #[.string s] w fun e W'=>e = .returned (.tuple #[.slice none 0 0,.agg #[.int .i64 14,.int .i64 (-1)]]) ∧ Below w.heap.size w W':=by
  go_enter Tryz.func23,Tryz.ntmps23
  go_wp2
  exact bodyPost_ret (v:=.tuple #[.slice none 0 0,.agg #[.int .i64 14,.int .i64 (-1)]]) (by simp [results,Tryz.results23,go_sem]) rfl ⟨rfl,(Below.refl _ w).alloc (Nat.le_refl _) _⟩
def RV (R : Res) (w : World) (e : Ending) (W' : World) : Prop :=
  ∃ v ts c p,e = .returned (.tuple #[v,.agg #[.int .i64 c,.int .i64 p]]) ∧ (ts,c,p) = (match R with | .ok ts=>(ts,0,0) | .bad c p=>([],c,(p : Int))) ∧ W'.ownsRow w.heap.size 63 4 v ts.length (cellsT ts) ∧ Below w.heap.size w W'
theorem RV.bad {R : Res} {c : Int} {p : Nat} (h : R = .bad c p) {w W' : World} {v : Value} (hv : v = .tuple #[.slice none 0 0,.agg #[.int .i64 c,.int .i64 p]]) (hB : Below w.heap.size w W') : RV R w (.returned v) W':=by
  subst h hv
  exact ⟨_,[],c,p,rfl,rfl,World.ownsRow_nil _ _ _ _,hB⟩
end Go.Proofs.YtlgkfhipobdcfaaGreatDoor

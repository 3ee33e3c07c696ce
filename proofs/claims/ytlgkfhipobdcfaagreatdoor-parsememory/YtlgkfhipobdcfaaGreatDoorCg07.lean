import Derived.Test.YtlgkfhipobdcfaaGreatDoorCg06
import Derived.Defers
import Derived.Recover
import Derived.Test.YtlgkfhipobdcfaaGreatDoorCg00
import Derived.Test.YtlgkfhipobdcfaaGreatDoorCg03
namespace Go.Proofs.YtlgkfhipobdcfaaGreatDoor
open Go.RowKit
inductive Ch (s : ByteArray) : Nat → Nat → Prop
  | refl (p : Nat) : Ch s p p
  | step (p q : Nat) : p < s.size → Ch s (p + wd s p) q → Ch s p q
theorem Ch.le {s : ByteArray} {p q : Nat} (h : Ch s p q) : p ≤ q:=by
  induction h with
  | refl=>exact Nat.le_refl _
  | step p q _ _ ih=>omega
theorem Ch.trans {s : ByteArray} {p q r : Nat} (h : Ch s p q) (k : Ch s q r) : Ch s p r:=by
  induction h with
  | refl=>exact k
  | step p q hp _ ih=>exact .step p r hp (ih k)
theorem Ch.out {s : ByteArray} {p q : Nat} (h : Ch s p q) (hn : p ≠ q) : p < s.size ∧ Ch s (p + wd s p) q:=by
  cases h with
  | refl=>exact absurd rfl hn
  | step _ _ hp k=>exact ⟨hp,k⟩
theorem Ch.end {s : ByteArray} {p q : Nat} (h : Ch s p q) (hp : ¬ p < s.size) : q = p:=by
  cases h with
  | refl=>rfl
  | step _ _ h1 _=>exact absurd h1 hp
theorem ch_asc (s : ByteArray) : ∀ (n p : Nat),p + n ≤ s.size → (∀ i c,p ≤ i → i < p + n → (LD s i).head? = some c → c.toNat < 128) → Ch s p (p + n)
  | 0,p,_,_=>.refl p
  | n + 1,p,h,hx=>by
    obtain ⟨c,hc⟩:=LD_cons s p (by omega)
    have h1:=hx p c (Nat.le_refl _) (by omega) (by rw [hc];rfl)
    have hw : wd s p = 1:=by
      rw [wd_drop]
      show wdL (LD s p) = 1
      rw [hc];exact (asc c _ h1).2
    refine .step _ _ (by omega) ?_
    rw [hw]
    have:=ch_asc s n (p + 1) (by omega) (fun i c h2 h3=>hx i c (by omega) (by omega))
    have e : p + 1 + n = p + (n + 1):=by omega
    rw [e] at this
    exact this
theorem ch_spn (s : ByteArray) (f : Nat → Bool) (p : Nat) : Ch s p (p + spn f (LD s p)):=by
  by_cases h : p < s.size
  · cases hf : f (rnL (LD s p))
    · rw [spn_no f _ (LD_ne s p h) hf];exact .refl p
    · rw [spn_yes f _ (LD_ne s p h) hf,LD_drop]
      have hw : wdL (LD s p) = wd s p:=(wd_drop s p).symm
      rw [hw]
      have:=ch_spn s f (p + wd s p)
      rw [Nat.add_assoc] at this
      exact .step _ _ h this
  · rw [LD_nil s p h,spn_nil];exact .refl p
termination_by s.size - p
decreasing_by have:=wd_pos s p;omega
theorem ch_qt (s : ByteArray) (q : UInt8) (hq : q.toNat < 128) (o a : Nat) (acc : List UInt8) (v : List UInt8) (n : Nat) (hoa : o < a) (h : qt q (LD s a) (a - o) acc = .ok v n) : Ch s a (o + n):=by
  by_cases ha : a < s.size
  · obtain ⟨c,hc⟩:=LD_cons s a ha
    have hwd : wd s a = wdL (LD s a):=wd_drop s a
    have hwl:=wd_le s a ha
    have hwp:=wd_pos s a
    rcases Nat.lt_or_ge c.toNat 128 with h1 | h1
    · have hw1 : wd s a = 1:=by rw [hwd,hc];exact (asc c _ h1).2
      rw [hc] at h
      by_cases h10 : c.toNat = 10
      · rw [qt_nl q c _ _ _ h10] at h;cases h
      by_cases hcq : c = q
      · rw [qt_end q c _ _ _ hcq (by rw [← hcq];exact h10)] at h
        split at h
        · cases h
        · cases h
          refine .step _ _ ha ?_
          rw [hw1]
          have e : o + (a - o + 1) = a + 1:=by omega
          rw [e];exact .refl _
      by_cases h92 : c.toNat = 92
      · rw [qt_esc q c _ _ _ h92 (fun e=>hcq (UInt8.toNat_inj.1 (by omega)))] at h
        split at h
        · cases h
        · split at h
          · cases h
          · rename_i k1 k2
            obtain ⟨t1,t2⟩:=esc_take (LD s (a + 1))
            rw [LD_len] at t1
            rw [LD_drop] at h
            have e : a - o + 1 + (esc (LD s (a + 1))).2 = a + 1 + (esc (LD s (a + 1))).2 - o:=by omega
            rw [e] at h
            have ih:=ch_qt s q hq o (a + 1 + (esc (LD s (a + 1))).2) _ v n (by omega) h
            refine .step _ _ ha ?_
            rw [hw1]
            refine Ch.trans (ch_asc s (esc (LD s (a + 1))).2 (a + 1) (by omega) (fun i d g1 g2 g3=>?_)) ih
            apply t2
            have h4 : (LD s (a + 1)).drop (i - (a + 1)) = LD s i:=by rw [LD_drop];congr 1;omega
            have h6 : d ∈ ((LD s (a + 1)).take (esc (LD s (a + 1))).2).drop (i - (a + 1)):=by
              rw [List.drop_take,h4]
              cases hL : LD s i with
              | nil=>rw [hL] at g3;cases g3
              | cons y z =>
                rw [hL] at g3
                have : y = d:=by simpa using g3
                subst this
                obtain ⟨m,hm⟩ : ∃ m,(esc (LD s (a + 1))).2 - (i - (a + 1)) = m + 1:=⟨(esc (LD s (a + 1))).2 - (i - (a + 1)) - 1,by omega⟩
                rw [hm];simp
            exact List.mem_of_mem_drop h6
      · have hp:=qt_pass q 1 (c :: LD s (a + 1)) (a - o) acc (by simp) (fun x hx=>by
          simp at hx;subst hx;exact ⟨h10,hcq,h92⟩)
        rw [hp] at h
        simp only [List.drop_succ_cons,List.drop_zero] at h
        have e : a - o + 1 = a + 1 - o:=by omega
        rw [e] at h
        have ih:=ch_qt s q hq o (a + 1) _ v n (by omega) h
        refine .step _ _ ha ?_
        rw [hw1];exact ih
    · have hb:=hi_bytes c (LD s (a + 1)) h1
      rw [← hc,← hwd] at hb
      have hp:=qt_pass q (wd s a) (LD s a) (a - o) acc (by rw [LD_len];omega) (fun x hx=>by
        have:=hb x hx
        exact ⟨by omega,fun e=>by rw [e] at this;omega,by omega⟩)
      rw [hp,LD_drop] at h
      have e : a - o + wd s a = a + wd s a - o:=by omega
      rw [e] at h
      exact .step _ _ ha (ch_qt s q hq o (a + wd s a) _ v n (by omega) h)
  · rw [LD_nil s a ha,qt_nil] at h;cases h
termination_by s.size - a
decreasing_by all_goals omega
theorem ch_sgz (s : ByteArray) (p : Nat) : Ch s p (p + sgz (LD s p)):=by
  obtain ⟨h1,h2⟩:=sgz_le (LD s p)
  rw [LD_len] at h2
  by_cases hz : sgz (LD s p) = 0
  · rw [hz];exact .refl p
  · refine ch_asc s (sgz (LD s p)) p (by omega) (fun i c g1 g2 g3=>?_)
    unfold sgz at g2 hz
    have h4 : (LD s p).drop (i - p) = LD s i:=by rw [LD_drop];congr 1;omega
    split at g2
    · rename_i hm
      have hmem : (LD s p).take 2 ∈ sgn2:=by simpa using hm
      have hall : ∀ x ∈ (LD s p).take 2,x.toNat < 128:=by
        simp only [sgn2,List.mem_cons,List.not_mem_nil,or_false] at hmem
        rcases hmem with e | e | e | e | e | e <;> rw [e] <;> decide
      apply hall
      have h6 : c ∈ ((LD s p).take 2).drop (i - p):=by
        rw [List.drop_take,h4]
        cases hL : LD s i with
        | nil=>rw [hL] at g3;cases g3
        | cons y z =>
          rw [hL] at g3
          have : y = c:=by simpa using g3
          subst this
          obtain ⟨m,hm⟩ : ∃ m,2 - (i - p) = m + 1:=⟨2 - (i - p) - 1,by omega⟩
          rw [hm];simp
      exact List.mem_of_mem_drop h6
    · split at g2
      · rename_i hm
        have : i = p:=by omega
        subst this
        cases hL : LD s i with
        | nil=>rw [hL] at g3;cases g3
        | cons y z =>
          rw [hL] at g3 hm
          have : y = c:=by simpa using g3
          subst this
          have hmem : y ∈ sgn1:=by simpa using hm
          revert hmem
          have hd : ∀ x ∈ sgn1,x.toNat < 128:=by decide
          exact hd y
      · omega
theorem ch_stp (s : ByteArray) (p : Nat) (hp : p < s.size) : (∀ n,stp (LD s p) = .skip n → Ch s (p + wd s p) (p + n)) ∧ (∀ k t v n,stp (LD s p) = .tok k t v n → Ch s (p + wd s p) (p + n)):=by
  have hne:=LD_ne s p hp
  have hpos:=stp_pos (LD s p) hne
  have key : ∀ n,1 ≤ n → Ch s p (p + n) → Ch s (p + wd s p) (p + n):=fun n hn h=>(h.out (by omega)).2
  obtain ⟨c,hc⟩:=LD_cons s p hp
  constructor
  · intro n h
    have h1:=(hpos.1 n h).1
    refine key n h1 ?_
    unfold stp at h
    split at h
    · rename_i hb
      cases h
      have hr : rnL (LD s p) < 128:=by omega
      rw [hc] at hr
      have hw : wd s p = 1:=by
        rw [wd_drop];show wdL (LD s p) = 1
        rw [hc];exact (rn_lt c _ hr).2
      refine .step _ _ hp ?_
      rw [hw];exact .refl _
    · split at h
      · cases h;exact ch_spn s _ p
      · split at h
        · split at h <;> cases h
        · split at h
          · split at h <;> cases h
          · split at h
            · split at h <;> cases h
            · split at h <;> cases h
  · intro k t v n h
    have h1:=(hpos.2 k t v n h).1
    refine key n h1 ?_
    unfold stp at h
    split at h
    · cases h
    · split at h
      · cases h
      · split at h
        · split at h
          · cases h
          · cases h;exact ch_spn s _ p
        · split at h
          · split at h
            · cases h
            · cases h;exact ch_spn s _ p
          · split at h
            · rename_i hq
              split at h
              · rename_i v' n' hqt
                cases h
                have hr : rnL (LD s p) < 128:=by omega
                have hr2:=hr
                rw [hc] at hr2
                have hcr:=rn_lt c _ hr2
                rw [← hc] at hcr
                have hw : wd s p = 1:=by rw [wd_drop];exact hcr.2
                rw [hc] at hqt
                simp only [List.headD_cons,List.drop_succ_cons,List.drop_zero] at hqt
                have e : p + 1 - p = 1:=by omega
                have:=ch_qt s c (by omega) p (p + 1) [] _ _ (by omega) (by rw [e];exact hqt)
                refine .step _ _ hp ?_
                rw [hw];exact this
              · cases h
            · split at h
              · cases h
              · cases h;exact ch_sgz s p
end Go.Proofs.YtlgkfhipobdcfaaGreatDoor


namespace Go.Proofs.YtlgkfhipobdcfaaGreatDoor
open Go.RowKit
def RO (b B : Nat) (s : ByteArray) (V : World) (N : Nat) : Res → Ending → World → Prop
  | .ok ts,e,W'=>e = .returned (.tuple #[]) ∧ SC b B s ts W' ∧ Kp b N V W'
  | .bad c p,e,W'=>e = refu c p ∧ Kp b N V W'
theorem Kp.mono {b B B' : Nat} {x y : World} (h : Kp b B x y) (hB : B' ≤ B) : Kp b B' x y:=⟨h.os,h.tape,h.output,h.size,fun k hk hn=>h.block k (by omega) hn⟩
theorem Kp.iterAt {b B k : Nat} {x y : World} (h : Kp b B x y) (hk : B ≤ k) (s : ByteArray) (p : Nat) : Kp b B x (y.iterAt k s p) :=
  h.trans ⟨rfl,rfl,rfl,by rw [Lib.iterAt_size];exact Nat.le_refl _,fun j hj _=>Lib.iterAt_other y k j s p (by omega)⟩
theorem SC.drew {b B : Nat} {s : ByteArray} {ts : List Tok} {W : World} (h : SC b B s ts W) : SC b B s ts W.drew:=⟨h.src,h.tok,h.free,h.lt⟩
set_option maxRecDepth 20000 in
set_option maxHeartbeats 4000000 in
theorem scan_any (b : Nat) (s : ByteArray) (V : World) (hsrc : V.cell? ⟨b,0,none⟩ = some (.string s)) (htok : V.cell? ⟨b,1,none⟩ = some (.slice none 0 0)) (hfr : V.frozen? ⟨b,1,none⟩ = false) (hbV : b < V.heap.size) (hs : s.size ≤ 20000) :
    Calls Tryz.prog 31 #[.pointer (some ⟨b,0,none⟩)] V fun e W'=>RO b (V.heap.size + 1) s V V.heap.size (scn (LD s 0) 0 []) e W':=by
  obtain ⟨R,hR⟩ : ∃ R,scn (LD s 0) 0 [] = R:=⟨_,rfl⟩
  rw [hR]
  have HR0 : Hid (scn (LD s 0) 0 [] = R):=hR
  clear hR
  have hSC0 : SC b (V.heap.size + 1) s [] (V.alloc (.stringIter s 0)) :=
    ⟨alloc_cell hbV hsrc _,⟨_,alloc_cell hbV htok _,World.ownsRow_nil _ _ _ _⟩,alloc_frozen hbV hfr _,by omega,by simp⟩
  go_enter Tryz.func31,Tryz.ntmps31
  go_wp2
  go_loopg [2] (s.size + 1) (fun gf v2 wx=>∃ (pos T : Nat) (ts : List Tok),pos ≤ s.size ∧ wx.heap[V.heap.size]? = some (.stringIter s pos) ∧ v2 = .int .i64 T ∧ Hid (Ch s pos T) ∧ SC b (V.heap.size + 1) s ts wx ∧ Kp b V.heap.size V wx ∧ ts.length ≤ T ∧ Hid (scn (LD s T) T ts = R) ∧ s.size < pos + gf)
  case atStart=>exact ⟨0,0,[],Nat.zero_le _,World.iter_heap V s 0,rfl,.refl 0,hSC0,Kp.of_below ((Below.refl _ _).alloc (Nat.le_refl _) _) (Nat.le_refl _),Nat.le_refl _,HR0,by omega⟩
  case round =>
    obtain ⟨pos,T,ts,hple,hi,rfl,hCh,hSC,hK,htl,hR,hfu⟩:=hrel
    have hpT:=hCh.out.le
    by_cases hps : pos < s.size
    · obtain ⟨g',rfl⟩ : ∃ g',gk = g' + 1:=⟨gk - 1,by omega⟩
      have hnx : ∀ ty,(Instr.next (.pointer (some ⟨V.heap.size,0,none⟩)) true ty).run Tryz.prog wr = .ok (.tuple #[.bool true,.int .i64 pos,.int .i32 (rn s pos)]) (wr.iterAt V.heap.size s (pos + wd s pos)):=fun ty=>Lib.run_next_any_at wr V.heap.size s pos ty hi hps
      have hwp:=wd_pos s pos
      have hwl:=wd_le s pos hps
      have hi2:=Lib.iterAt_heap wr V.heap.size s pos (pos + wd s pos) hi
      have hSC2:=hSC.iterAt (p':=pos + wd s pos) hi (by omega)
      have hK2:=hK.iterAt (Nat.le_refl _) s (pos + wd s pos)
      obtain ⟨W,hW⟩ : ∃ W,wr.iterAt V.heap.size s (pos + wd s pos) = W:=⟨_,rfl⟩
      rw [hW] at hnx hi2 hSC2 hK2
      clear hi hSC hK hW
      by_cases hsk : pos < T
      · have HC : Hid (Ch s (pos + wd s pos) T):=(hCh.out.out (by omega)).2
        clear hCh
        go_wp2
        go_roundg g'
        case measure=>omega
        case rel=>exact ⟨pos + wd s pos,T,ts,hwl,hi2,rfl,HC,hSC2,hK2,htl,hR,by omega⟩
      · have hTp : T = pos:=by omega
        subst hTp
        have CT:=take_any b (V.heap.size + 1) s ts W hSC2 T hps hs (by omega) (rn s T) rfl
        have hch:=ch_stp s T hps
        have hpp:=stp_pos (LD s T) (LD_ne s T hps)
        cases hst : stp (LD s T) with
        | skip n =>
          rw [hst] at CT
          have HC : Hid (Ch s (T + wd s T) (T + n)):=hch.1 n hst
          have HR : Hid (scn (LD s (T + n)) (T + n) ts = R):=by
            show _ = _
            rw [← hR.out,scn_skip (LD_ne s T hps) hst,LD_drop]
          have hnn:=(hpp.1 n hst).1
          clear hch hpp hst hR hCh
          go_wp2_with (go_at_call 60;refine CT.mono ?_;rintro e w2 ⟨rfl,h1,h2⟩)
          go_roundg g'
          case measure=>omega
          case rel=>exact ⟨T + wd s T,T + n,ts,hwl,(h2.block _ (by omega) (by omega)).trans hi2,by go_num,HC,h1,hK2.trans (h2.mono (by omega)),by omega,HR,by omega⟩
        | tok k t v n =>
          rw [hst] at CT
          have HC : Hid (Ch s (T + wd s T) (T + n)):=hch.2 k t v n hst
          have HR : Hid (scn (LD s (T + n)) (T + n) (ts ++ [⟨k,t,v,T⟩]) = R):=by
            show _ = _
            rw [← hR.out,scn_tok (LD_ne s T hps) hst,LD_drop]
          have hnn:=(hpp.2 k t v n hst).1
          clear hch hpp hst hR hCh
          go_wp2_with (go_at_call 60;refine CT.mono ?_;rintro e w2 ⟨rfl,h1,h2⟩)
          go_roundg g'
          case measure=>omega
          case rel=>exact ⟨T + wd s T,T + n,_,hwl,(h2.block _ (by omega) (by omega)).trans hi2,by go_num,HC,h1,hK2.trans (h2.mono (by omega)),by simp;omega,HR,by omega⟩
        | bad c x =>
          rw [hst] at CT
          have HR : Hid (R = .bad c (T + x)):=by
            show _ = _
            rw [← hR.out,scn_bad (LD_ne s T hps) hst]
          clear hch hpp hst hR hCh
          go_wp2_with (go_at_call 60;refine CT.mono ?_;rintro e w2 ⟨he,h2⟩;unfold refu at he;subst he)
          exact ⟨rfl,by rw [HR.out];exact ⟨rfl,hK2.trans (h2.mono (by omega))⟩⟩
    · have hnx : ∀ ty,(Instr.next (.pointer (some ⟨V.heap.size,0,none⟩)) true ty).run Tryz.prog wr = .ok (.tuple #[.bool false]) wr:=fun ty=>Lib.run_next_end_at wr V.heap.size s pos ty hi hps
      have hTe : T = pos:=hCh.out.end hps
      subst hTe
      have hTs : T = s.size:=by omega
      have HR : Hid (R = .ok (ts ++ [⟨6,[],0,s.size⟩])):=by
        show _ = _
        rw [← hR.out,LD_nil s T hps,scn_nil,hTs]
      have CA:=fun w (hw : SC b (V.heap.size + 1) s ts w)=>add_any b (V.heap.size + 1) s ts w hw 6 0 s.size s.size (Nat.le_refl _) (Nat.le_refl _) hs (by omega)
      have et : (s.data.toList.drop s.size).take (s.size - s.size) = []:=by simp
      rw [et] at CA
      have hsrcW:=hSC.src
      have hbw : b < wr.heap.size:=by have:=hSC.lt;omega
      clear hR hCh hTs et
      go_wp2_with fail
      go_region_held3 (fun w'=>w'.cell? ⟨b,0,none⟩ = some (.string s)) (first | go_keep | exact h1.src) ((go_at_call 61;refine (CA _ (by first | exact hSC | exact hSC.drew)).mono ?_;rintro e w1 ⟨rfl,h1,h2⟩))
      go_wp2
      go_end0
      rw [HR.out]
      exact ⟨rfl,h1,hK.trans ((Kp.undrew h2).mono (by omega))⟩
end Go.Proofs.YtlgkfhipobdcfaaGreatDoor


namespace Go.Proofs.YtlgkfhipobdcfaaGreatDoor
open Go.RowKit
theorem ta_yes (v : Value) (w : World) : (Instr.typeAssert (.iface 73 v) 20 73 true).run Tryz.prog w = .ok (.tuple #[v,.bool true]) w:=by
  have hu:=Tryz.underlying73
  unfold Instr.typeAssert
  simp_all [run_underlying hu,go_sem,Result.andThen]
theorem ta_nil (w : World) : (Instr.typeAssert .nilIface 20 73 true).run Tryz.prog w = .ok (.tuple #[.agg #[.int .i64 0,.int .i64 0],.bool false]) w:=by
  have hu:=Tryz.underlying73
  have hz : ∀ w,(zeroValue 73).run Tryz.prog w = .ok (.agg #[.int .i64 0,.int .i64 0]) w:=fun w=>by kernel_rfl
  unfold Instr.typeAssert
  simp_all [run_underlying hu,go_sem,Result.andThen]
set_option maxHeartbeats 1000000 in
theorem catch_idle (a : Nat) (w : World) :
    CallsD Tryz.prog 30 #[.pointer (some ⟨a,0,none⟩),.pointer (some ⟨a + 1,0,none⟩)] .returning w fun e u' w'=>e = .returned (.tuple #[]) ∧ u' = .returning ∧ Below w.heap.size w w':=by
  have hta:=ta_nil
  refine callsD_of_wpS Tryz.func30 rfl fun c₀ cs hu=>?_
  apply wpS_seq
  apply wpS_region
  simp [wpOpsS,go_sem,recoverD,hu,Tryz.ntmps30,Exit.thenS,hta]
  refine wpS_of_wp ?_
  change Code.wp Tryz.prog _ _ ⟨#[.pointer (some ⟨a,0,none⟩),.pointer (some ⟨a + 1,0,none⟩),.pointer (some ⟨w.heap.size,0,none⟩),.bool false,.tuple #[.agg #[.int .i64 0,.int .i64 0],.bool false],.nilIface,.tuple #[.agg #[.int .i64 0,.int .i64 0],.bool false],.agg #[.int .i64 0,.int .i64 0],.bool false,undef,undef],[]⟩ _
  go_wp2
  refine ⟨rfl,.returning,by cases c₀;simp_all,.tuple #[],by simp [results,Tryz.results30,go_sem],rfl,rfl,(Below.refl _ _).alloc (Nat.le_refl _) _⟩
theorem arr11 (p0 p1 v2 v3 v4 v5 v6 v7 v8 : Value) : #[p0,p1] ++ (((((((Array.replicate 9 undef).setIfInBounds 3 v5).setIfInBounds 4 v6).setIfInBounds 2 v4).setIfInBounds 5 v7).setIfInBounds 6 v8).setIfInBounds 0 v2).setIfInBounds 1 v3 = #[p0,p1,v2,v3,v4,v5,v6,v7,v8,undef,undef]:=by kernel_rfl
set_option maxHeartbeats 1000000 in
theorem catch_panicking (a : Nat) (c x : Int) (older : List PanicEntry) (w : World) (u0 u1 u2 : Value) (h0 : w.cell? ⟨a,0,none⟩ = some u0) (f0 : w.frozen? ⟨a,0,none⟩ = false) (h1 : w.cell? ⟨a + 1,0,none⟩ = some u1) (f1 : w.frozen? ⟨a + 1,0,none⟩ = false) (h2 : w.cell? ⟨a + 1,1,none⟩ = some u2) (f2 : w.frozen? ⟨a + 1,1,none⟩ = false) (hlt : a + 1 < w.heap.size) :
    CallsD Tryz.prog 30 #[.pointer (some ⟨a,0,none⟩),.pointer (some ⟨a + 1,0,none⟩)] (.panicking ({ v:=.iface 73 (.agg #[.int .i64 c,.int .i64 x]),recovered:=false } :: older)) w fun e u' w' =>
      e = .returned (.tuple #[]) ∧ u' = .panicking ({ v:=.iface 73 (.agg #[.int .i64 c,.int .i64 x]),recovered:=true } :: older) ∧ w'.cell? ⟨a,0,none⟩ = some (.slice none 0 0) ∧ w'.cell? ⟨a + 1,0,none⟩ = some (.int .i64 c) ∧ w'.cell? ⟨a + 1,1,none⟩ = some (.int .i64 x) ∧ Below a w w':=by
  have hta:=ta_yes
  have g0:=alloc_cell (W:=w) (b:=a) (by omega) h0 (.cells #[.int .i64 c,.int .i64 x] 73)
  have g1:=alloc_cell (W:=w) (b:=a + 1) hlt h1 (.cells #[.int .i64 c,.int .i64 x] 73)
  have g2:=alloc_cell (W:=w) (b:=a + 1) hlt h2 (.cells #[.int .i64 c,.int .i64 x] 73)
  have k0:=alloc_frozen (W:=w) (b:=a) (by omega) f0 (.cells #[.int .i64 c,.int .i64 x] 73)
  have k1:=alloc_frozen (W:=w) (b:=a + 1) hlt f1 (.cells #[.int .i64 c,.int .i64 x] 73)
  have k2:=alloc_frozen (W:=w) (b:=a + 1) hlt f2 (.cells #[.int .i64 c,.int .i64 x] 73)
  refine callsD_of_wpS Tryz.func30 rfl fun c₀ cs hu=>?_
  apply wpS_seq
  apply wpS_region
  simp [wpOpsS,go_sem,recoverD,hu,Tryz.ntmps30,Exit.thenS,hta]
  refine wpS_of_wp ?_
  rw [arr11]
  go_wp2
  go_region
  all_goals
    refine ⟨rfl,.panicking ({ v:=.iface 73 (.agg #[.int .i64 c,.int .i64 x]),recovered:=true } :: older),by cases c₀;simp_all,.tuple #[],by simp [results,Tryz.results30,go_sem],rfl,rfl,?_⟩
    refine ⟨by simp [go_sem,g0],by simp [go_sem,g1],by simp [go_sem,g2],?_⟩
    exact (((((Below.refl a w).alloc (by omega) _).setCell (Nat.le_refl _) _).setCell (Nat.le_succ _) _).setCell (Nat.le_succ _) _).drew
def scT (l : List UInt8) : List Tok × Int × Int :=
  if 20000 < l.length then ([],14,-1) else match scn l 0 [] with | .ok ts=>(ts,0,0) | .bad c p=>([],c,p)
set_option maxHeartbeats 2000000 in
theorem Scan_big (s : ByteArray) (w : World) (hb : 20000 < s.size) (hs : s.size ≤ 9223372036854775807) :
    Calls Tryz.prog 20 #[.string s] w fun e W'=>e = .returned (.tuple #[.slice none 0 0,.agg #[.int .i64 14,.int .i64 (-1)]]) ∧ Below w.heap.size w W':=by
  have hmf : ∀ (fn : Fn) (first cap : Array Value) (w : World),(Instr.makeFunc fn first cap).run Tryz.prog w = .ok (.func fn first cap) w:=fun _ _ _ _=>rfl
  go_enter_defers Tryz.func20,Tryz.ntmps20
  go_wp2
  simp [bodyPostD,Leaves,results,Tryz.results20,go_sem]
  exact ((Below.refl _ w).alloc (Nat.le_refl _) _).alloc (by simp) _
set_option maxHeartbeats 2000000 in
theorem Scan_small (s : ByteArray) (w : World) (hs : s.size ≤ 20000) (R : Res) (hR : scn (LD s 0) 0 [] = R) :
    Calls Tryz.prog 20 #[.string s] w fun e W'=>∃ v ts c p,e = .returned (.tuple #[v,.agg #[.int .i64 c,.int .i64 p]]) ∧ (ts,c,p) = (match R with | .ok ts=>(ts,0,0) | .bad c p=>([],c,(p : Int))) ∧ W'.ownsRow w.heap.size 79 4 v ts.length (cellsT ts) ∧ Below w.heap.size w W':=by
  have hmf : ∀ (fn : Fn) (first cap : Array Value) (w : World),(Instr.makeFunc fn first cap).run Tryz.prog w = .ok (.func fn first cap) w:=fun _ _ _ _=>rfl
  obtain ⟨V,hV⟩ : ∃ V,((w.alloc (.cells #[.slice none 0 0] 47)).alloc (.cells #[.int .i64 0,.int .i64 0] 27)).alloc (.cells #[.string s,.slice none 0 0] 76) = V:=⟨_,rfl⟩
  have hVs : V.heap.size = w.heap.size + 3:=by rw [← hV];simp
  have CS:=scan_any (w.heap.size + 2) s V (by rw [← hV];simp [go_sem]) (by rw [← hV];simp [go_sem]) (by rw [← hV];simp [go_sem]) (by omega) hs
  rw [hR] at CS
  have hBV : Below w.heap.size w V:=by rw [← hV];exact (((Below.refl _ w).alloc (Nat.le_refl _) _).alloc (by simp) _).alloc (by simp;omega) _
  have c0 : V.cell? ⟨w.heap.size,0,none⟩ = some (.slice none 0 0):=by rw [← hV];simp [go_sem]
  have c1 : V.cell? ⟨w.heap.size + 1,0,none⟩ = some (.int .i64 0):=by rw [← hV];simp [go_sem]
  have c2 : V.cell? ⟨w.heap.size + 1,1,none⟩ = some (.int .i64 0):=by rw [← hV];simp [go_sem]
  have d0 : V.frozen? ⟨w.heap.size,0,none⟩ = false:=by rw [← hV];simp [go_sem]
  have d1 : V.frozen? ⟨w.heap.size + 1,0,none⟩ = false:=by rw [← hV];simp [go_sem]
  have d2 : V.frozen? ⟨w.heap.size + 1,1,none⟩ = false:=by rw [← hV];simp [go_sem]
  have HV : Hid (((w.alloc (.cells #[.slice none 0 0] 47)).alloc (.cells #[.int .i64 0,.int .i64 0] 27)).alloc (.cells #[.string s,.slice none 0 0] 76) = V):=hV
  cases R with
  | ok ts =>
    rw [← hV] at CS
    clear hV hR
    go_enter_defers Tryz.func20,Tryz.ntmps20
    go_wp2_with (go_at_call 31;refine CS.mono ?_;rintro e w1 ⟨rfl,h1,h2⟩;rw [HV.out] at h1 h2;obtain ⟨v,hv,hown⟩:=h1.tok;obtain ⟨av,cv,rfl⟩:=slice_shape hown;have q0 : w1.cell? ⟨w.heap.size,0,none⟩ = some (.slice none 0 0):=(World.cell?_of_block (h2.block w.heap.size (by omega) (by omega))).trans c0;have q1 : w1.cell? ⟨w.heap.size + 1,0,none⟩ = some (.int .i64 0):=(World.cell?_of_block (h2.block (w.heap.size + 1) (by omega) (by omega))).trans c1;have q2 : w1.cell? ⟨w.heap.size + 1,1,none⟩ = some (.int .i64 0):=(World.cell?_of_block (h2.block (w.heap.size + 1) (by omega) (by omega))).trans c2;have r0 : w1.frozen? ⟨w.heap.size,0,none⟩ = false:=(World.frozen?_of_block (h2.block w.heap.size (by omega) (by omega))).trans d0;have r1 : w1.frozen? ⟨w.heap.size + 1,0,none⟩ = false:=(World.frozen?_of_block (h2.block (w.heap.size + 1) (by omega) (by omega))).trans d1;have r2 : w1.frozen? ⟨w.heap.size + 1,1,none⟩ = false:=(World.frozen?_of_block (h2.block (w.heap.size + 1) (by omega) (by omega))).trans d2)
    have hsz:=h2.size
    obtain ⟨W3,hW3⟩ : ∃ W3,((w1.setCell ⟨w.heap.size,0,none⟩ (.slice av ts.length cv)).setCell ⟨w.heap.size + 1,0,none⟩ (.int .i64 0)).setCell ⟨w.heap.size + 1,1,none⟩ (.int .i64 0) = W3:=⟨_,rfl⟩
    have hsz3 : W3.heap.size = w1.heap.size:=by rw [← hW3];simp
    have hown3 : W3.ownsRow (V.heap.size + 1) 79 4 (.slice av ts.length cv) ts.length (cellsT ts):=by
      rw [← hW3]
      exact ownsRow_setCell_below (ownsRow_setCell_below (ownsRow_setCell_below hown (by show w.heap.size < _;omega) _) (by show w.heap.size + 1 < _;omega) _) (by show w.heap.size + 1 < _;omega) _
    have hB3 : Below w.heap.size w W3:=by
      rw [← hW3]
      exact (((hBV.trans ((h2.below (by omega)).mono (by omega))).setCell (Nat.le_refl _) _).setCell (Nat.le_succ _) _).setCell (Nat.le_succ _) _
    have y0 : W3.cell? ⟨w.heap.size,0,none⟩ = some (.slice av ts.length cv):=by rw [← hW3];simp [go_sem,q0]
    have y1 : W3.cell? ⟨w.heap.size + 1,0,none⟩ = some (.int .i64 0):=by rw [← hW3];simp [go_sem,q1]
    have y2 : W3.cell? ⟨w.heap.size + 1,1,none⟩ = some (.int .i64 0):=by rw [← hW3];simp [go_sem,q2]
    rw [hW3]
    refine leaves_cons (f:=30) (args:=#[.pointer (some ⟨w.heap.size,0,none⟩),.pointer (some ⟨w.heap.size + 1,0,none⟩)]) (by simp) (by simp [go_sem]) ?_
    refine (catch_idle w.heap.size W3).mono ?_
    rintro e u' w2 ⟨rfl,rfl,hB⟩
    have z0:=(hB.cell (p:=⟨w.heap.size,0,none⟩) (by show w.heap.size < _;omega)).trans y0
    have z1:=(hB.cell (p:=⟨w.heap.size + 1,0,none⟩) (by show w.heap.size + 1 < _;omega)).trans y1
    have z2:=(hB.cell (p:=⟨w.heap.size + 1,1,none⟩) (by show w.heap.size + 1 < _;omega)).trans y2
    refine ⟨.tuple #[.slice av ts.length cv,.agg #[.int .i64 0,.int .i64 0]],by simp [results,Tryz.results20,go_sem,z0,z1,z2],?_⟩
    exact ⟨_,ts,0,0,rfl,rfl,own_base (own_below hown3 hB) (by omega),hB3.trans (hB.mono (by omega))⟩
  | bad c p =>
    rw [← hV] at CS
    clear hV hR
    go_enter_defers Tryz.func20,Tryz.ntmps20
    go_wp2_with (go_at_call 31;refine CS.mono ?_;rintro e w1 ⟨he,h2⟩;unfold refu at he;subst he)
    rw [HV.out] at h2
    have hb2 : ∀ k,k < w.heap.size + 2 → w1.heap[k]? = V.heap[k]?:=fun k hk=>h2.block k (by omega) (by omega)
    have hsz:=h2.size
    refine leaves_cons (f:=30) (args:=#[.pointer (some ⟨w.heap.size,0,none⟩),.pointer (some ⟨w.heap.size + 1,0,none⟩)]) (by simp) (by simp [go_sem]) ?_
    refine (catch_panicking w.heap.size c p [] w1 _ _ _ ((World.cell?_of_block (hb2 w.heap.size (by omega))).trans c0) ((World.frozen?_of_block (hb2 w.heap.size (by omega))).trans d0) ((World.cell?_of_block (hb2 (w.heap.size + 1) (by omega))).trans c1) ((World.frozen?_of_block (hb2 (w.heap.size + 1) (by omega))).trans d1) ((World.cell?_of_block (hb2 (w.heap.size + 1) (by omega))).trans c2) ((World.frozen?_of_block (hb2 (w.heap.size + 1) (by omega))).trans d2) (by omega)).mono ?_
    rintro e u' w2 ⟨rfl,rfl,k0,k1,k2,hB⟩
    simp [Leaves,settle,results,Tryz.results20,go_sem,k0,k1,k2]
    exact ⟨_,[],c,p,⟨rfl,rfl,rfl⟩,⟨rfl,rfl,rfl⟩,World.ownsRow_nil _ _ _ _,(hBV.trans ((h2.below (by omega)).mono (by omega))).trans hB⟩
theorem scT_len (s : ByteArray) : s.data.toList.length = s.size:=Array.length_toList
theorem Scan_any (s : ByteArray) (w : World) (hs : s.size ≤ 9223372036854775807) :
    Calls Tryz.prog 20 #[.string s] w fun e W'=>∃ v,e = .returned (.tuple #[v,.agg #[.int .i64 (scT s.data.toList).2.1,.int .i64 (scT s.data.toList).2.2]]) ∧ W'.ownsRow w.heap.size 79 4 v (scT s.data.toList).1.length (cellsT (scT s.data.toList).1) ∧ Below w.heap.size w W':=by
  by_cases hb : 20000 < s.size
  · refine (Scan_big s w hb hs).mono fun e W' ⟨he,hB⟩=>?_
    have : scT s.data.toList = ([],14,-1):=by unfold scT;rw [scT_len,if_pos hb]
    rw [this]
    exact ⟨_,he,World.ownsRow_nil _ _ _ _,hB⟩
  · refine (Scan_small s w (by omega) _ rfl).mono fun e W' ⟨v,ts,c,p,he,h1,h2,hB⟩=>?_
    have : scT s.data.toList = (ts,c,p):=by
      unfold scT
      rw [scT_len,if_neg hb,h1]
      rfl
    rw [this]
    exact ⟨v,he,h2,hB⟩
end Go.Proofs.YtlgkfhipobdcfaaGreatDoor





namespace Go.Proofs.YtlgkfhipobdcfaaGreatDoor
theorem decodeN_local (n n' b0 b1 b2 b3 c1 c2 c3 : Nat) (hg : ¬ ((Lib.decodeN n b0 b1 b2 b3).1 = 65533 ∧ (Lib.decodeN n b0 b1 b2 b3).2 = 1)) (hn : (Lib.decodeN n b0 b1 b2 b3).2 ≤ n')
    (h1 : 2 ≤ (Lib.decodeN n b0 b1 b2 b3).2 → c1 = b1) (h2 : 3 ≤ (Lib.decodeN n b0 b1 b2 b3).2 → c2 = b2) (h3 : 4 ≤ (Lib.decodeN n b0 b1 b2 b3).2 → c3 = b3) :
    Lib.decodeN n' b0 c1 c2 c3 = Lib.decodeN n b0 b1 b2 b3:=by
  by_cases a1 : b0 < 128
  · unfold Lib.decodeN;rw [if_pos a1,if_pos a1]
  by_cases a2 : b0 / 32 = 6 ∧ 1 < n ∧ b1 / 64 = 2
  · by_cases a3 : b0 % 32 * 64 + b1 % 64 ≥ 128
    · have e : Lib.decodeN n b0 b1 b2 b3 = (b0 % 32 * 64 + b1 % 64,2):=by unfold Lib.decodeN;rw [if_neg a1,if_pos a2,if_pos a3]
      rw [e] at hn h1 ⊢
      obtain rfl:=h1 (Nat.le_refl _)
      unfold Lib.decodeN
      rw [if_neg a1,if_pos ⟨a2.1,hn,a2.2.2⟩,if_pos a3]
    · have e : Lib.decodeN n b0 b1 b2 b3 = (65533,1):=by unfold Lib.decodeN;rw [if_neg a1,if_pos a2,if_neg a3]
      rw [e] at hg;simp at hg
  by_cases a4 : b0 / 16 = 14 ∧ (1 < n ∧ b1 / 64 = 2) ∧ 2 < n ∧ b2 / 64 = 2
  · by_cases a5 : b0 % 16 * 4096 + b1 % 64 * 64 + b2 % 64 ≥ 2048 ∧ (b0 % 16 * 4096 + b1 % 64 * 64 + b2 % 64 < 55296 ∨ 57344 ≤ b0 % 16 * 4096 + b1 % 64 * 64 + b2 % 64 ∧ b0 % 16 * 4096 + b1 % 64 * 64 + b2 % 64 ≤ 1114111)
    · have e : Lib.decodeN n b0 b1 b2 b3 = (b0 % 16 * 4096 + b1 % 64 * 64 + b2 % 64,3):=by unfold Lib.decodeN;rw [if_neg a1,if_neg a2,if_pos a4,if_pos a5]
      rw [e] at hn h1 h2 ⊢
      obtain rfl:=h1 (show 2 ≤ 3 by omega)
      obtain rfl:=h2 (Nat.le_refl _)
      have hn' : 3 ≤ n':=hn
      unfold Lib.decodeN
      rw [if_neg a1,if_neg (by omega),if_pos ⟨a4.1,⟨by omega,a4.2.1.2⟩,by omega,a4.2.2.2⟩,if_pos a5]
    · have e : Lib.decodeN n b0 b1 b2 b3 = (65533,1):=by unfold Lib.decodeN;rw [if_neg a1,if_neg a2,if_pos a4,if_neg a5]
      rw [e] at hg;simp at hg
  by_cases a6 : b0 / 8 = 30 ∧ (1 < n ∧ b1 / 64 = 2) ∧ (2 < n ∧ b2 / 64 = 2) ∧ 3 < n ∧ b3 / 64 = 2
  · by_cases a7 : b0 % 8 * 262144 + b1 % 64 * 4096 + b2 % 64 * 64 + b3 % 64 ≥ 65536 ∧ (b0 % 8 * 262144 + b1 % 64 * 4096 + b2 % 64 * 64 + b3 % 64 < 55296 ∨ 57344 ≤ b0 % 8 * 262144 + b1 % 64 * 4096 + b2 % 64 * 64 + b3 % 64 ∧ b0 % 8 * 262144 + b1 % 64 * 4096 + b2 % 64 * 64 + b3 % 64 ≤ 1114111)
    · have e : Lib.decodeN n b0 b1 b2 b3 = (b0 % 8 * 262144 + b1 % 64 * 4096 + b2 % 64 * 64 + b3 % 64,4):=by unfold Lib.decodeN;rw [if_neg a1,if_neg a2,if_neg a4,if_pos a6,if_pos a7]
      rw [e] at hn h1 h2 h3 ⊢
      obtain rfl:=h1 (show 2 ≤ 4 by omega)
      obtain rfl:=h2 (show 3 ≤ 4 by omega)
      obtain rfl:=h3 (Nat.le_refl _)
      have hn' : 4 ≤ n':=hn
      unfold Lib.decodeN
      rw [if_neg a1,if_neg (by omega),if_neg (by omega),if_pos ⟨a6.1,⟨by omega,a6.2.1.2⟩,⟨by omega,a6.2.2.1.2⟩,by omega,a6.2.2.2.2⟩,if_pos a7]
    · have e : Lib.decodeN n b0 b1 b2 b3 = (65533,1):=by unfold Lib.decodeN;rw [if_neg a1,if_neg a2,if_neg a4,if_pos a6,if_neg a7]
      rw [e] at hg;simp at hg
  · have e : Lib.decodeN n b0 b1 b2 b3 = (65533,1):=by unfold Lib.decodeN;rw [if_neg a1,if_neg a2,if_neg a4,if_neg a6]
    rw [e] at hg;simp at hg
def okR (r : Rn) : Prop:=¬ (r.2.2 = 65533 ∧ r.2.1 = 1)
theorem decode_local (s t : ByteArray) (p q : Nat) (hg : okR (p,wd s p,rn s p)) (hn : q + wd s p ≤ t.size) (hb : ∀ i,i < wd s p → t.get! (q + i) = s.get! (p + i)) : wd t q = wd s p ∧ rn t q = rn s p:=by
  have h0:=wd_pos s p
  unfold okR at hg
  simp only at hg
  have key : Utf8.decode t q = Utf8.decode s p:=by
    unfold wd rn at *
    rw [Lib.decode_at s p] at *
    rw [Lib.decode_at t q]
    have e0 : (t.get! q).toNat = (s.get! p).toNat:=by have:=hb 0 (by omega);simp only [Nat.add_zero] at this;rw [this]
    rw [e0]
    exact decodeN_local _ _ _ _ _ _ _ _ _ hg (by omega) (fun h=>by rw [hb 1 (by omega)]) (fun h=>by rw [hb 2 (by omega)]) (fun h=>by rw [hb 3 (by omega)])
  unfold wd rn
  rw [key]
  exact ⟨rfl,rfl⟩
def en (p : Nat) : List Rn → Nat
  | []=>p
  | r :: A=>en (p + r.2.1) A
end Go.Proofs.YtlgkfhipobdcfaaGreatDoor


namespace Go.Proofs.YtlgkfhipobdcfaaGreatDoor
open Go.RowKit
theorem qt_badc (q : UInt8) : ∀ (m : Nat) (l : List UInt8) (i : Nat) (acc : List UInt8),l.length ≤ m → ∀ c o,qt q l i acc = .bad c o → c ≠ 0 ∧ o < i + l.length + 1
  | 0,l,i,acc,hm,c,o,h=>by
    have : l = []:=List.eq_nil_of_length_eq_zero (by omega)
    subst this;rw [qt_nil] at h;cases h;exact ⟨by omega,by omega⟩
  | m + 1,[],i,acc,_,c,o,h=>by rw [qt_nil] at h;cases h;exact ⟨by omega,by omega⟩
  | m + 1,x :: t,i,acc,hm,c,o,h=>by
    simp only [List.length_cons] at hm ⊢
    rw [qt] at h
    split at h
    · cases h;exact ⟨by omega,by omega⟩
    · split at h
      · split at h
        · cases h;exact ⟨by omega,by omega⟩
        · cases h
      · split at h
        · split at h
          · cases h;exact ⟨by omega,by omega⟩
          · split at h
            · cases h;exact ⟨by omega,by omega⟩
            · have h2:=(esc_take t).1
              have:=qt_badc q m _ _ _ (by rw [List.length_drop];omega) c o h
              rw [List.length_drop] at this
              exact ⟨this.1,by omega⟩
        · have:=qt_badc q m t _ _ (by omega) c o h
          exact ⟨this.1,by omega⟩
theorem qt_bado (q : UInt8) : ∀ (m : Nat) (l : List UInt8) (i : Nat) (acc : List UInt8),l.length ≤ m → ∀ c o,qt q l i acc = .bad c o → o = 0 ∨ o < i + l.length
  | 0,l,i,acc,hm,c,o,h=>by
    have : l = []:=List.eq_nil_of_length_eq_zero (by omega)
    subst this;rw [qt_nil] at h;cases h;exact .inl rfl
  | m + 1,[],i,acc,_,c,o,h=>by rw [qt_nil] at h;cases h;exact .inl rfl
  | m + 1,x :: t,i,acc,hm,c,o,h=>by
    simp only [List.length_cons] at hm ⊢
    rw [qt] at h
    split at h
    · cases h;exact .inl rfl
    · split at h
      · split at h
        · cases h;exact .inl rfl
        · cases h
      · split at h
        · split at h
          · cases h;exact .inl rfl
          · split at h
            · cases h;right;omega
            · have h2:=(esc_take t).1
              have:=qt_bado q m _ _ _ (by rw [List.length_drop];omega) c o h
              rw [List.length_drop] at this
              omega
        · have:=qt_bado q m t _ _ (by omega) c o h
          omega
theorem stp_badc (l : List UInt8) (hl : l ≠ []) (c : Int) (o : Nat) (h : stp l = .bad c o) : c ≠ 0 ∧ o < l.length:=by
  have hlen:=List.length_pos_iff.2 hl
  unfold stp at h
  split at h
  · cases h
  · split at h
    · cases h
    · split at h
      · split at h
        · cases h;exact ⟨by omega,hlen⟩
        · cases h
      · split at h
        · split at h
          · rename_i hz
            cases h;exact ⟨hz,hlen⟩
          · cases h
        · split at h
          · split at h
            · cases h
            · rename_i hq
              cases h
              have h1:=qt_badc _ _ _ _ _ (Nat.le_refl _) _ _ hq
              have h2:=qt_bado _ _ _ _ _ (Nat.le_refl _) _ _ hq
              rw [List.length_drop] at h2
              exact ⟨h1.1,by omega⟩
          · split at h
            · cases h;exact ⟨by omega,hlen⟩
            · cases h
theorem scn_badc : ∀ (m : Nat) (l : List UInt8) (p : Nat) (acc : List Tok),l.length ≤ m → ∀ c q,scn l p acc = .bad c q → c ≠ 0 ∧ q < p + l.length
  | 0,l,p,acc,hm,c,q,h=>by
    have : l = []:=List.eq_nil_of_length_eq_zero (by omega)
    subst this;rw [scn_nil] at h;cases h
  | m + 1,[],p,acc,_,c,q,h=>by rw [scn_nil] at h;cases h
  | m + 1,x :: u,p,acc,hm,c,q,h=>by
    have hp:=stp_pos (x :: u) (by simp)
    cases hs : stp (x :: u) with
    | skip n =>
      rw [scn_skip (by simp) hs] at h
      obtain ⟨h1,h2⟩:=hp.1 n hs
      have:=scn_badc m _ _ _ (by rw [List.length_drop];omega) c q h
      rw [List.length_drop] at this
      exact ⟨this.1,by omega⟩
    | tok k t v n =>
      rw [scn_tok (by simp) hs] at h
      obtain ⟨h1,h2⟩:=hp.2 k t v n hs
      have:=scn_badc m _ _ _ (by rw [List.length_drop];omega) c q h
      rw [List.length_drop] at this
      exact ⟨this.1,by omega⟩
    | bad d o =>
      rw [scn_bad (by simp) hs] at h
      cases h
      have:=stp_badc (x :: u) (by simp) c o hs
      exact ⟨this.1,by omega⟩
structure OT (l : List UInt8) (a : Nat) (t : Tok) : Prop where
  lo : a ≤ t.p
  hi : t.p < l.length
  kd : t.k ≠ 6
  tx : t.k ≠ 4 → t.t ≠ [] ∧ t.p + t.t.length ≤ l.length ∧ (l.drop t.p).take t.t.length = t.t
  nm : t.k = 1 → letB (rnL t.t) = true ∧ wordB t.t = false
def nxt (t : Tok) : Nat:=if t.k = 4 then t.p + 1 else t.p + t.t.length
def GT (l : List UInt8) : Nat → List Tok → Prop
  | _,[]=>False
  | a,t :: r=>match r with
    | []=>t.k = 6 ∧ t.t = [] ∧ t.p = l.length ∧ a ≤ l.length
    | _ :: _=>OT l a t ∧ GT l (nxt t) r
theorem GT.ne {l : List UInt8} {a : Nat} {r : List Tok} (h : GT l a r) : r ≠ []:=fun e=>by subst e;exact h
theorem rnL_take (l : List UInt8) (n : Nat) (h0 : l ≠ []) (h1 : wdL l ≤ n) (hv : ¬ (rnL l = 65533 ∧ wdL l = 1)) : rnL (l.take n) = rnL l:=by
  have hle:=wdL_le l h0
  have hpos:=wdL_pos l
  have:=decode_local ⟨l.toArray⟩ ⟨(l.take n).toArray⟩ 0 0 (by unfold okR;exact hv) (by rw [sz_list,List.length_take];show 0 + wdL l ≤ _;omega) (fun i hi=>by
    rw [get_list,get_list]
    simp only [Nat.zero_add]
    have hi' : i < wdL l:=hi
    rw [List.getD_eq_getElem?_getD,List.getD_eq_getElem?_getD,List.getElem?_take_of_lt (by omega)])
  exact this.2
theorem stp_tok (l : List UInt8) (hl : l ≠ []) (k : Int) (t : List UInt8) (v : Int) (n : Nat) (h : stp l = .tok k t v n) :
    k ≠ 6 ∧ (k ≠ 4 → t = l.take n) ∧ (k = 1 → letB (rnL t) = true ∧ wordB t = false) ∧ (1 ≤ k ∧ k ≤ 5):=by
  unfold stp at h
  split at h
  · cases h
  · split at h
    · cases h
    · split at h
      · rename_i hlt
        split at h
        · cases h
        · cases h
          refine ⟨by split <;> omega,fun _=>rfl,fun hk=>?_,by split <;> omega⟩
          have hw : wordB (l.take (spn inNm l)) = false:=by
            cases hw : wordB (l.take (spn inNm l))
            · rfl
            · rw [hw] at hk;simp at hk
          have hf : inNm (rnL l) = true:=by unfold inNm;rw [hlt];rfl
          refine ⟨?_,hw⟩
          rw [rnL_take l _ hl (by rw [spn_yes inNm l hl hf];omega) (fun hc=>by
            have:=hc.1
            rw [this] at hlt
            exact absurd hlt (by decide))]
          exact hlt
      · split at h
        · split at h
          · cases h
          · cases h;exact ⟨by omega,fun _=>rfl,fun hk=>absurd hk (by omega),by omega⟩
        · split at h
          · split at h
            · cases h;exact ⟨by omega,fun hk=>absurd rfl hk,fun hk=>absurd hk (by omega),by omega⟩
            · cases h
          · split at h
            · cases h
            · cases h;exact ⟨by omega,fun _=>rfl,fun hk=>absurd hk (by omega),by omega⟩
theorem scn_GT (l : List UInt8) : ∀ (m p : Nat) (acc : List Tok) (ts : List Tok),l.length - p ≤ m → p ≤ l.length → scn (l.drop p) p acc = .ok ts → ∃ body,ts = acc ++ body ∧ ∀ a,a ≤ p → GT l a body
  | m,p,acc,ts,hm,hp,h=>by
    by_cases hlt : p < l.length
    · have hne : l.drop p ≠ []:=fun e=>by have:=congrArg List.length e;simp at this;omega
      have hpos:=stp_pos (l.drop p) hne
      rw [List.length_drop] at hpos
      cases m with
      | zero=>omega
      | succ m =>
        cases hs : stp (l.drop p) with
        | skip n =>
          rw [scn_skip hne hs,List.drop_drop] at h
          obtain ⟨h1,h2⟩:=hpos.1 n hs
          obtain ⟨body,e1,e2⟩:=scn_GT l m (p + n) acc ts (by omega) (by omega) h
          exact ⟨body,e1,fun a ha=>e2 a (by omega)⟩
        | tok k t v n =>
          rw [scn_tok hne hs,List.drop_drop] at h
          obtain ⟨h1,h2⟩:=hpos.2 k t v n hs
          obtain ⟨body,e1,e2⟩:=scn_GT l m (p + n) _ ts (by omega) (by omega) h
          obtain ⟨k1,k2,k3,k4⟩:=stp_tok (l.drop p) hne k t v n hs
          have hot : ∀ a,a ≤ p → OT l a ⟨k,t,v,p⟩:=fun a ha=>{
            lo:=ha,hi:=hlt,kd:=k1
            tx:=fun hk=>by
              have ht:=k2 hk
              have hl : t.length = n:=by rw [ht,List.length_take,List.length_drop];omega
              refine ⟨fun e=>?_,?_,?_⟩
              · have e' : t = []:=e
                rw [e'] at hl;simp at hl;omega
              · show p + t.length ≤ _;omega
              · show (l.drop p).take t.length = t;rw [hl,← ht]
            nm:=k3 }
          have hnx : nxt ⟨k,t,v,p⟩ ≤ p + n:=by
            unfold nxt
            by_cases hk : k = 4
            · rw [if_pos hk];show p + 1 ≤ _;omega
            · rw [if_neg hk]
              show p + t.length ≤ _
              rw [k2 hk,List.length_take];omega
          refine ⟨⟨k,t,v,p⟩ :: body,by rw [e1];simp,fun a ha=>?_⟩
          have hb:=e2 (nxt ⟨k,t,v,p⟩) hnx
          cases body with
          | nil=>exact absurd rfl hb.ne
          | cons y z=>exact ⟨hot a ha,hb⟩
        | bad d o=>rw [scn_bad hne hs] at h;cases h
    · have e : l.drop p = []:=List.drop_of_length_le (by omega)
      rw [e,scn_nil] at h
      cases h
      exact ⟨_,rfl,fun a ha=>⟨rfl,rfl,by show p = _;omega,by omega⟩⟩
theorem scT_ok (l : List UInt8) (h : (scT l).2.1 = 0) : GT l 0 (scT l).1 ∧ ¬ 20000 < l.length ∧ (scT l).2.2 = 0:=by
  unfold scT at h ⊢
  split
  · rename_i hb
    rw [if_pos hb] at h;simp at h
  · rename_i hb
    rw [if_neg hb] at h
    cases hs : scn l 0 [] with
    | ok ts =>
      obtain ⟨body,e1,e2⟩:=scn_GT l _ 0 [] ts (Nat.le_refl _) (Nat.zero_le _) hs
      rw [List.nil_append] at e1
      subst e1
      exact ⟨e2 0 (Nat.le_refl _),hb,rfl⟩
    | bad c q =>
      rw [hs] at h
      have:=scn_badc _ l 0 [] (Nat.le_refl _) c q hs
      exact absurd h this.1
end Go.Proofs.YtlgkfhipobdcfaaGreatDoor




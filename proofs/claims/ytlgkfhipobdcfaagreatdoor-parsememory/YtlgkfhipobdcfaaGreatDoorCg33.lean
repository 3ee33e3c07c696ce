import Derived.Test.YtlgkfhipobdcfaaGreatDoorCg32
namespace Go.Proofs.YtlgkfhipobdcfaaGreatDoor
open Go.RowKit
def RN (b m : Nat) (T : List Tok) (W : World) (s' : Sx) (f : F) (e : Ending) (W' : World) : Prop:=∃ k t n p a c ks,f = one k t n p ks ∧ e = .returned (.agg #[.int .i64 (k),.string ⟨(t).toArray⟩,.int .i64 (n),.int .i64 (p),.slice a ks.len c]) ∧ TN 32 W' (fun g=>W.heap.size ≤ g) k t n p (.slice a ks.len c) ks ∧ Tt b m T s' W W'
def RL (b m : Nat) (T : List Tok) (W : World) (s' : Sx) (f : F) (e : Ending) (W' : World) : Prop:=∃ a c,e = .returned (.slice a f.len c) ∧ KL 32 (fun g=>W.heap.size ≤ g) W' (.slice a f.len c) f ∧ Tt b m T s' W W'
@[reducible] def Pn (j : RJ) (s : Sx) (f : F) (s' : Sx) : Prop :=
  match j with
  | .lst=>f.len + s'.l.length ≤ s.l.length + 1 ∧ 1 ≤ f.len
  | .nms=>f.len + s'.l.length ≤ s.l.length + 1 ∧ 1 ≤ f.len
  | _=>f.len = 1
@[reducible] def Pst (j : RJ) (s s' : Sx) : Prop :=
  match j with
  | .stat _=>s.c ≠ 56 → s'.l.length + 1 ≤ s.l.length
  | .suf=>s.c ≠ 56 → s'.l.length + 1 ≤ s.l.length
  | .plain _=>s.c ≠ 56 → s'.l.length + 1 ≤ s.l.length
  | .body=>s.c = 7 → s'.l.length + 1 ≤ s.l.length
  | _=>True
structure Pz (j : RJ) (s : Sx) (f : F) (s' : Sx) : Prop where
  ends : Ends s.l → Ends s'.l
  len : Ends s.l → s'.l.length ≤ s.l.length
  row : Ends s.l → Pn j s f s'
  st : Ends s.l → Pst j s s'
def Cl (T : List Tok) (j : RJ) (s : Sx) (f : F) (s' : Sx) : Prop :=
  match j with
  | .exp k=>∀ b m W,RT b m T s W → Calls Tryz.prog 72 #[.pointer (some ⟨b,0,none⟩),.int .i64 k] W (RN b m T W s' f)
  | .opd=>∀ b m W,RT b m T s W → Calls Tryz.prog 109 #[.pointer (some ⟨b,0,none⟩)] W (RN b m T W s' f)
  | .suf=>∀ b m W,RT b m T s W → Calls Tryz.prog 111 #[.pointer (some ⟨b,0,none⟩)] W (RN b m T W s' f)
  | .fld=>∀ b m W,RT b m T s W → Calls Tryz.prog 132 #[.pointer (some ⟨b,0,none⟩)] W (RN b m T W s' f)
  | .lst=>∀ b m W,RT b m T s W → Calls Tryz.prog 47 #[.pointer (some ⟨b,0,none⟩)] W (RL b m T W s' f)
  | .nms=>∀ b m W,RT b m T s W → Calls Tryz.prog 50 #[.pointer (some ⟨b,0,none⟩)] W (RL b m T W s' f)
  | .blk c=>∀ b m W,RT b m T s W → Calls Tryz.prog 24 #[.pointer (some ⟨b,0,none⟩),.bool c] W (RN b m T W s' f)
  | .body=>∀ b m W,RT b m T s W → Calls Tryz.prog 73 #[.pointer (some ⟨b,0,none⟩)] W (RN b m T W s' f)
  | .stat p=>∀ b m W,RT b m T s W → Calls Tryz.prog 51 #[.pointer (some ⟨b,0,none⟩),.int .i64 p] W (RN b m T W s' f)
  | .loop p=>∀ b m W,RT b m T s W → Calls Tryz.prog 74 #[.pointer (some ⟨b,0,none⟩),.int .i64 p] W (RN b m T W s' f)
  | .plain p=>∀ b m W,RT b m T s W → Calls Tryz.prog 75 #[.pointer (some ⟨b,0,none⟩),.int .i64 p] W (RN b m T W s' f)
structure CR (T : List Tok) (j : RJ) (s : Sx) (f : F) (s' : Sx) : Prop where
  pz : Pz j s f s'
  cl : Cl T j s f s'
theorem Sx.c_lt {s : Sx} (h : s.c ≠ 56) : s.f < 0 ∧ s.c = cls s.t:=by
  unfold Sx.c at h ⊢
  split
  · next hf=>exact ⟨hf,rfl⟩
  · next hf=>rw [if_neg hf] at h;exact absurd rfl h
theorem Sx.tl_e {s : Sx} (h : Ends s.l) (hc : s.c ≠ 56) : Ends s.tl.l ∧ s.tl.l.length + 1 = s.l.length:=by
  obtain ⟨t,l',e⟩ : ∃ t l',s.l = t :: l':=by
    cases hl : s.l with
    | nil=>rw [hl] at h;exact absurd rfl h.ne
    | cons t l'=>exact ⟨t,l',rfl⟩
  have ht : s.t = t:=by unfold Sx.t;rw [e];rfl
  obtain ⟨_,hcc⟩:=Sx.c_lt hc
  show Ends s.l.tail ∧ s.l.tail.length + 1 = s.l.length
  rw [e] at h ⊢
  exact ⟨h.tail (by rw [← ht,← hcc];exact hc),rfl⟩
section
variable {T : List Tok} (hE : Ends T)
include hE
theorem bad_e {s : Sx} (h : Ends s.l) (a : Int) : Ends (s.bad T a).l ∧ (s.bad T a).l.length ≤ s.l.length:=by
  have:=lst1_ends hE
  have h2 : 0 < s.l.length:=List.length_pos_iff.2 h.ne
  exact ⟨this.1,by show (lst1 T).length ≤ _;omega⟩
theorem need_e2 {s : Sx} (h : Ends s.l) (c : Nat) (hc : c ≠ 56) : Ends (s.needC T c).l ∧ (s.needC T c).l.length ≤ s.l.length:=by
  unfold Sx.needC
  split
  · next h1 =>
    obtain ⟨h2,h3⟩:=Sx.tl_e h (by rw [h1];exact hc)
    exact ⟨h2,by omega⟩
  · exact bad_e hE h _
theorem name_e {s : Sx} (h : Ends s.l) : Ends (s.name T).l ∧ (s.name T).l.length ≤ s.l.length:=by
  unfold Sx.name
  split
  · next h1 =>
    obtain ⟨h2,h3⟩:=Sx.tl_e h (by rw [(name_c s).1 h1];decide)
    exact ⟨h2,by omega⟩
  · exact bad_e hE h _
theorem tg_e {s : Sx} (h : Ends s.l) (e : F) : Ends (s.tg T e).l ∧ (s.tg T e).l.length ≤ s.l.length:=by
  unfold Sx.tg
  split
  · exact ⟨h,Nat.le_refl _⟩
  · exact bad_e hE h _
omit hE in
theorem nm_len (s : Sx) (q : Int) : (s.nm q).len = 1:=by unfold Sx.nm;split <;> rfl
omit hE in
theorem sm_e {s : Sx} (h : Ends s.l) : Ends s.sm.l ∧ s.sm.l.length ≤ s.l.length:=by
  unfold Sx.sm
  split
  · next h1 =>
    obtain ⟨h2,h3⟩:=Sx.tl_e h (by rw [h1];decide)
    exact ⟨h2,by omega⟩
  · exact ⟨h,Nat.le_refl _⟩
theorem nms_e {a s g s'} (h : Nms T a s g s') : Ends s.l → Ends s'.l ∧ g.len + s'.l.length ≤ a.len + s.l.length ∧ s'.l.length ≤ s.l.length:=by
  induction h with
  | stop h=>exact fun h=>⟨h,Nat.le_refl _,Nat.le_refl _⟩
  | @more a s g s3 h h2 ih =>
    intro hs
    obtain ⟨e1,l1⟩:=Sx.tl_e hs (by rw [h];decide)
    obtain ⟨e2,l2⟩:=name_e hE e1
    obtain ⟨e3,l3,l4⟩:=ih e2
    rw [F.len_app,nm_len] at l3
    exact ⟨e3,by omega,by omega⟩
omit hE in
theorem nms_len {a s g s'} (h : Nms T a s g s') : a.len ≤ g.len:=by
  induction h with
  | stop h=>exact Nat.le_refl _
  | more h h2 ih=>rw [F.len_app] at ih;omega
variable {R : RJ → Sx → F → Sx → Prop} (hP : ∀ j s f s',R j s f s' → Pz j s f s')
include hP
omit hE in
theorem lst_e {a s g s'} (h : Lst R a s g s') : Ends s.l → Ends s'.l ∧ g.len + s'.l.length ≤ a.len + s.l.length ∧ s'.l.length ≤ s.l.length:=by
  induction h with
  | stop h=>exact fun h=>⟨h,Nat.le_refl _,Nat.le_refl _⟩
  | @more a s f s2 g s3 h h1 h2 ih =>
    intro hs
    obtain ⟨e1,l1⟩:=Sx.tl_e hs (by rw [h];decide)
    have p:=hP _ _ _ _ h1
    have l2:=p.len e1
    have l0 : f.len = 1:=p.row e1
    obtain ⟨e3,l3,l4⟩:=ih (p.ends e1)
    rw [F.len_app] at l3
    exact ⟨e3,by omega,by omega⟩
omit hE hP in
theorem lst_len {a s g s'} (h : Lst R a s g s') : a.len ≤ g.len:=by
  induction h with
  | stop h=>exact Nat.le_refl _
  | more h h1 h2 ih=>rw [F.len_app] at ih;omega
omit hE in
theorem lvl_e {k a s g s'} (hk : k ≠ 0) (h : Lvl R k a s g s') : Ends s.l → a.len = 1 → Ends s'.l ∧ s'.l.length ≤ s.l.length ∧ g.len = 1:=by
  induction h with
  | stop h=>exact fun h ha=>⟨h,Nat.le_refl _,ha⟩
  | @more n s m s2 g s3 h h1 h2 ih =>
    intro hs _
    obtain ⟨e1,l1⟩:=Sx.tl_e hs (by intro e;rw [e] at h;exact hk h.symm)
    have p:=hP _ _ _ _ h1
    have l2:=p.len e1
    obtain ⟨e3,l3,l4⟩:=ih (p.ends e1) rfl
    exact ⟨e3,by omega,l4⟩
omit hE in
theorem tab_e {a s g s'} (h : TabL R a s g s') : Ends s.l → Ends s'.l ∧ g.len + s'.l.length ≤ a.len + s.l.length + 1 ∧ s'.l.length ≤ s.l.length:=by
  induction h with
  | stop h=>exact fun h=>⟨h,by omega,Nat.le_refl _⟩
  | @more a s f s1 g s2 h hc h1 h2 h3 ih =>
    intro hs
    have p:=hP _ _ _ _ h1
    have l2:=p.len hs
    have l0 : f.len = 1:=p.row hs
    obtain ⟨e1,l1⟩:=Sx.tl_e (p.ends hs) (by omega)
    obtain ⟨e3,l3,l4⟩:=ih e1
    rw [F.len_app] at l3
    exact ⟨e3,by omega,by omega⟩
  | @last a s f s1 h hc h1 h2 h3 =>
    intro hs
    have p:=hP _ _ _ _ h1
    have l2:=p.len hs
    have l0 : f.len = 1:=p.row hs
    rw [F.len_app]
    exact ⟨p.ends hs,by omega,by omega⟩
theorem suf_e {q n s g s'} (h : SufL T R q n s g s') : Ends s.l → n.len = 1 → Ends s'.l ∧ s'.l.length ≤ s.l.length ∧ g.len = 1:=by
  induction h with
  | stop h1 h2 h3=>exact fun h hn=>⟨h,Nat.le_refl _,hn⟩
  | @idx n s k s1 g s2 h h1 h2 ih =>
    intro hs _
    obtain ⟨e1,l1⟩:=Sx.tl_e hs (by rw [h];decide)
    have p:=hP _ _ _ _ h1
    have l2:=p.len e1
    obtain ⟨e2,l3⟩:=need_e2 hE (p.ends e1) 20 (by decide)
    obtain ⟨e3,l4,l5⟩:=ih e2 rfl
    exact ⟨e3,by omega,l5⟩
  | @dot n s g s2 h h2 ih =>
    intro hs _
    obtain ⟨e1,l1⟩:=Sx.tl_e hs (by rw [h];decide)
    obtain ⟨e2,l3⟩:=name_e hE e1
    obtain ⟨e3,l4,l5⟩:=ih e2 rfl
    exact ⟨e3,by omega,l5⟩
  | @call0 n s g s2 h h1 h2 ih =>
    intro hs _
    obtain ⟨e1,l1⟩:=Sx.tl_e hs (by rw [h];decide)
    obtain ⟨e2,l3⟩:=Sx.tl_e e1 (by rw [h1];decide)
    obtain ⟨e3,l4,l5⟩:=ih e2 rfl
    exact ⟨e3,by omega,l5⟩
  | @callN n s k s1 g s2 h h0 h1 h2 ih =>
    intro hs _
    obtain ⟨e1,l1⟩:=Sx.tl_e hs (by rw [h];decide)
    have p:=hP _ _ _ _ h1
    have l2:=p.len e1
    obtain ⟨e2,l3⟩:=need_e2 hE (p.ends e1) 18 (by decide)
    obtain ⟨e3,l4,l5⟩:=ih e2 rfl
    exact ⟨e3,by omega,l5⟩
theorem ifs_e {a s g s'} (h : IfsL T R a s g s') : Ends s.l → Ends s'.l ∧ s'.l.length ≤ s.l.length ∧ g.len + 2 * s'.l.length ≤ a.len + 2 * s.l.length + 3:=by
  induction h with
  | @elif a s e s1 b s3 g s4 h1 h2 h h3 ih =>
    intro hs
    have p:=hP _ _ _ _ h1
    have l2:=p.len hs
    have r1 : e.len = 1:=p.row hs
    obtain ⟨e2,l3⟩:=need_e2 hE (p.ends hs) 13 (by decide)
    have q:=hP _ _ _ _ h2
    have l4:=q.len e2
    have r2 : b.len = 1:=q.row e2
    obtain ⟨e3,l5⟩:=Sx.tl_e (q.ends e2) (by rw [h];decide)
    obtain ⟨e4,l6,l7⟩:=ih e3
    rw [F.len_app,F.len_app] at l7
    exact ⟨e4,by omega,by omega⟩
  | @els a s e s1 b s3 b2 s4 h1 h2 h h3 =>
    intro hs
    have p:=hP _ _ _ _ h1
    have l2:=p.len hs
    have r1 : e.len = 1:=p.row hs
    obtain ⟨e2,l3⟩:=need_e2 hE (p.ends hs) 13 (by decide)
    have q:=hP _ _ _ _ h2
    have l4:=q.len e2
    have r2 : b.len = 1:=q.row e2
    obtain ⟨e3,l5⟩:=Sx.tl_e (q.ends e2) (by rw [h];decide)
    have q2:=hP _ _ _ _ h3
    have l6:=q2.len e3
    have r3 : b2.len = 1:=q2.row e3
    obtain ⟨e4,l7⟩:=need_e2 hE (q2.ends e3) 4 (by decide)
    rw [F.len_app,F.len_app,F.len_app]
    exact ⟨e4,by omega,by omega⟩
  | @done a s e s1 b s3 h1 h2 h h' =>
    intro hs
    have p:=hP _ _ _ _ h1
    have l2:=p.len hs
    have r1 : e.len = 1:=p.row hs
    obtain ⟨e2,l3⟩:=need_e2 hE (p.ends hs) 13 (by decide)
    have q:=hP _ _ _ _ h2
    have l4:=q.len e2
    have r2 : b.len = 1:=q.row e2
    obtain ⟨e4,l7⟩:=need_e2 hE (q.ends e2) 4 (by decide)
    rw [F.len_app,F.len_app]
    exact ⟨e4,by omega,by omega⟩
theorem asg_e {a e s g s'} (h : AsgL T R a e s g s') : Ends s.l → e.len = 1 → Ends s'.l ∧ s'.l.length ≤ s.l.length ∧ g.len + s'.l.length ≤ a.len + s.l.length + 1:=by
  induction h with
  | stop h=>exact fun h _=>⟨h,Nat.le_refl _,by omega⟩
  | @last a e s h h2 =>
    intro hs he
    obtain ⟨e1,l1⟩:=tg_e hE hs e
    rw [F.len_app]
    exact ⟨e1,l1,by omega⟩
  | @more a e s e2 s2 g s3 h h2 h1 h3 ih =>
    intro hs he
    obtain ⟨e1,l1⟩:=tg_e hE hs e
    obtain ⟨e3,l3⟩:=Sx.tl_e e1 (by rw [h2];decide)
    have p:=hP _ _ _ _ h1
    have l4:=p.len e3
    obtain ⟨e5,l5,l6⟩:=ih (p.ends e3) (p.row e3)
    rw [F.len_app] at l6
    exact ⟨e5,by omega,by omega⟩
omit hE in
theorem par_e {s g s'} (h : ParL R s g s') : Ends s.l → Ends s'.l ∧ s'.l.length ≤ s.l.length ∧ g.len + s'.l.length ≤ s.l.length + 1:=by
  cases h with
  | none h=>exact fun h=>⟨h,Nat.le_refl _,by simp [F.len]⟩
  | some h h1=>exact fun hs=>⟨(hP _ _ _ _ h1).ends hs,(hP _ _ _ _ h1).len hs,((hP _ _ _ _ h1).row hs).1⟩
theorem bk_e {c a s g s'} (h : BkL T R c a s g s') : Ends s.l → Ends s'.l ∧ s'.l.length ≤ s.l.length ∧ g.len + s'.l.length ≤ a.len + s.l.length:=by
  induction h with
  | stop h=>exact fun h=>⟨h,Nat.le_refl _,Nat.le_refl _⟩
  | @semi a s g s2 h h2 ih =>
    intro hs
    obtain ⟨e1,l1⟩:=Sx.tl_e hs (by rw [h];decide)
    obtain ⟨e2,l2,l3⟩:=ih e1
    exact ⟨e2,by omega,by omega⟩
  | @ret0 a s h h2 =>
    intro hs
    obtain ⟨e1,l1⟩:=Sx.tl_e hs (by rw [h];decide)
    obtain ⟨e2,l2⟩:=sm_e e1
    rw [F.len_app,show (one 30 [] 0 (s.t.p : Int) .nil).len = 1 from rfl]
    exact ⟨e2,by omega,by omega⟩
  | @retN a s g s1 h h2 h3 h1 =>
    intro hs
    obtain ⟨e1,l1⟩:=Sx.tl_e hs (by rw [h];decide)
    have p:=hP _ _ _ _ h1
    have l3:=p.len e1
    obtain ⟨e2,l2⟩:=sm_e (p.ends e1)
    rw [F.len_app,show (one 30 [] 0 (s.t.p : Int) g).len = 1 from rfl]
    exact ⟨e2,by omega,by omega⟩
  | @fn a s ps s4 b s6 g s7 hc h h1 h2 h3 ih =>
    intro hs
    obtain ⟨e1,l1⟩:=Sx.tl_e hs (by rw [h];decide)
    obtain ⟨e2,l2⟩:=name_e hE e1
    obtain ⟨e3,l3⟩:=need_e2 hE e2 17 (by decide)
    obtain ⟨e4,l4,_⟩:=par_e hP h1 e3
    obtain ⟨e5,l5⟩:=need_e2 hE e4 18 (by decide)
    have p:=hP _ _ _ _ h2
    have l6:=p.len e5
    obtain ⟨e7,l7⟩:=need_e2 hE (p.ends e5) 4 (by decide)
    obtain ⟨e8,l8,l9⟩:=ih e7
    rw [F.len_app,show (one 31 (s.tl.nm 6).text (ps.len : Int) (s.t.p : Int) (ps.app b)).len = 1 from rfl] at l9
    exact ⟨e8,by omega,by omega⟩
  | @st a s f s1 g s2 h0 h1 h2 h3 h h4 ih =>
    intro hs
    have p:=hP _ _ _ _ h
    have l1:=p.len hs
    have l0 : f.len = 1:=p.row hs
    have l2 : s.c ≠ 56 → s1.l.length + 1 ≤ s.l.length:=p.st hs
    have l3:=l2 (fun e=>h0 (.inl e))
    obtain ⟨e8,l8,l9⟩:=ih (p.ends hs)
    rw [F.len_app] at l9
    exact ⟨e8,by omega,by omega⟩
omit hE hP in
theorem two_len {s : Sx} (h : Ends s.l) (hc : s.c ≠ 56) : 2 ≤ s.l.length:=by
  obtain ⟨e1,l1⟩:=Sx.tl_e h hc
  have:=List.length_pos_iff.2 e1.ne
  omega
theorem pz_step {j s f s'} (h : Stp T R j s f s') : Pz j s f s':=by
  have hl1:=lst1_ends hE
  have nst : ∀ {s : Sx},Ends s.l → s.c ≠ 56 → (s.name T).l.length + 1 ≤ s.l.length:=fun {s} hs hc=>by
    have:=two_len hs hc
    unfold Sx.name
    split
    · have:=Sx.tl_e hs hc;omega
    · show (lst1 T).length + 1 ≤ _;omega
  cases h with
  | expF h=>exact ⟨id,fun _=>Nat.le_refl _,fun _=>rfl,fun _=>trivial⟩
  | exp7 h h1 =>
    have p:=hP _ _ _ _ h1
    exact ⟨p.ends,p.len,p.row,fun _=>trivial⟩
  | expK h hk hk2 h1 h2 =>
    have p:=hP _ _ _ _ h1
    have q:=fun hs=>lvl_e hP (by omega) h2 (p.ends hs) (p.row hs)
    exact ⟨fun hs=>(q hs).1,fun hs=>Nat.le_trans (q hs).2.1 (p.len hs),fun hs=>(q hs).2.2,fun _=>trivial⟩
  | num hf h=>exact ⟨fun hs=>(Sx.tl_e hs (by rw [h];decide)).1,fun hs=>by have:=(Sx.tl_e hs (by rw [h];decide)).2;omega,fun _=>rfl,fun _=>trivial⟩
  | str hf h=>exact ⟨fun hs=>(Sx.tl_e hs (by rw [h];decide)).1,fun hs=>by have:=(Sx.tl_e hs (by rw [h];decide)).2;omega,fun _=>rfl,fun _=>trivial⟩
  | nil hf h=>exact ⟨fun hs=>(Sx.tl_e hs (by rw [h];decide)).1,fun hs=>by have:=(Sx.tl_e hs (by rw [h];decide)).2;omega,fun _=>rfl,fun _=>trivial⟩
  | tru hf h=>exact ⟨fun hs=>(Sx.tl_e hs (by rw [h];decide)).1,fun hs=>by have:=(Sx.tl_e hs (by rw [h];decide)).2;omega,fun _=>rfl,fun _=>trivial⟩
  | fls hf h=>exact ⟨fun hs=>(Sx.tl_e hs (by rw [h];decide)).1,fun hs=>by have:=(Sx.tl_e hs (by rw [h];decide)).2;omega,fun _=>rfl,fun _=>trivial⟩
  | una hf h h1 =>
    have p:=hP _ _ _ _ h1
    have t:=fun hs=>Sx.tl_e (s:=s) hs (by omega)
    exact ⟨fun hs=>p.ends (t hs).1,fun hs=>by have:=p.len (t hs).1;have:=(t hs).2;omega,fun _=>rfl,fun _=>trivial⟩
  | @tab s g s1 hf h h1 =>
    have t:=fun hs=>Sx.tl_e (s:=s) hs (by rw [h];decide)
    have q:=fun hs=>tab_e hP h1 (t hs).1
    have r:=fun hs=>need_e2 hE (q hs).1 23 (by decide)
    exact ⟨fun hs=>(r hs).1,fun hs=>by have:=(r hs).2;have:=(q hs).2.2;have:=(t hs).2;omega,fun _=>rfl,fun _=>trivial⟩
  | osf hf h h1 =>
    have p:=hP _ _ _ _ h1
    exact ⟨p.ends,p.len,p.row,fun _=>trivial⟩
  | @spn s e s1 g s2 h h1 h2 =>
    have t:=fun hs=>Sx.tl_e (s:=s) hs (by rw [h];decide)
    have p:=hP _ _ _ _ h1
    have r:=fun hs=>need_e2 hE (p.ends (t hs).1) 18 (by decide)
    have q:=fun hs=>suf_e hE hP h2 (r hs).1 rfl
    exact ⟨fun hs=>(q hs).1,fun hs=>by have:=(q hs).2.1;have:=(r hs).2;have:=p.len (t hs).1;have:=(t hs).2;omega,fun hs=>(q hs).2.2,fun hs _=>by have:=(q hs).2.1;have:=(r hs).2;have:=p.len (t hs).1;have:=(t hs).2;omega⟩
  | @snm s g s2 h h2 =>
    have r:=fun hs=>name_e (s:=s) hE hs
    have q:=fun hs=>suf_e hE hP h2 (r hs).1 (nm_len _ _)
    exact ⟨fun hs=>(q hs).1,fun hs=>by have:=(q hs).2.1;have:=(r hs).2;omega,fun hs=>(q hs).2.2,fun hs hc=>by have:=(q hs).2.1;have:=nst hs hc;omega⟩
  | @fbr s k s1 v s3 hf h h1 h2 =>
    have t:=fun hs=>Sx.tl_e (s:=s) hs (by rw [h];decide)
    have p:=hP _ _ _ _ h1
    have r:=fun hs=>need_e2 hE (p.ends (t hs).1) 20 (by decide)
    have r2:=fun hs=>need_e2 hE (r hs).1 14 (by decide)
    have p2:=hP _ _ _ _ h2
    exact ⟨fun hs=>p2.ends (r2 hs).1,fun hs=>by have:=p2.len (r2 hs).1;have:=(r hs).2;have:=(r2 hs).2;have:=p.len (t hs).1;have:=(t hs).2;omega,fun _=>rfl,fun _=>trivial⟩
  | @fnm s v s1 hf h h' h1 =>
    have t:=fun hs=>Sx.tl_e (s:=s) hs (by rw [h];decide)
    have t2:=fun hs=>Sx.tl_e (t hs).1 (by rw [h'];decide)
    have p:=hP _ _ _ _ h1
    exact ⟨fun hs=>p.ends (t2 hs).1,fun hs=>by have:=p.len (t2 hs).1;have:=(t2 hs).2;have:=(t hs).2;omega,fun _=>rfl,fun _=>trivial⟩
  | fit hf h h' h1 =>
    have p:=hP _ _ _ _ h1
    exact ⟨p.ends,p.len,fun _=>rfl,fun _=>trivial⟩
  | lst h1 h2 =>
    have p:=hP _ _ _ _ h1
    have q:=fun hs=>lst_e hP h2 (p.ends hs)
    refine ⟨fun hs=>(q hs).1,fun hs=>Nat.le_trans (q hs).2.2 (p.len hs),fun hs=>?_,fun _=>trivial⟩
    have l1:=(q hs).2.1
    have l2:=p.len hs
    have l3:=p.row hs
    have l4:=lst_len h2
    simp only [Pn] at l3 ⊢
    omega
  | @nms s g s2 h2 =>
    have r:=fun hs=>name_e (s:=s) hE hs
    have q:=fun hs=>nms_e hE h2 (r hs).1
    refine ⟨fun hs=>(q hs).1,fun hs=>Nat.le_trans (q hs).2.2 (r hs).2,fun hs=>?_,fun _=>trivial⟩
    have l1:=(q hs).2.1
    have l2:=(r hs).2
    have l4:=nms_len h2
    rw [nm_len] at l1 l4
    simp only [Pn]
    omega
  | blk h =>
    have q:=fun hs=>bk_e hE hP h hs
    exact ⟨fun hs=>(q hs).1,fun hs=>(q hs).2.1,fun _=>rfl,fun _=>trivial⟩
  | @body s b s2 h =>
    have r:=fun hs=>need_e2 (s:=s) hE hs 7 (by decide)
    have p:=hP _ _ _ _ h
    have r2:=fun hs=>need_e2 hE (p.ends (r hs).1) 4 (by decide)
    refine ⟨fun hs=>(r2 hs).1,fun hs=>by have:=(r2 hs).2;have:=p.len (r hs).1;have:=(r hs).2;omega,fun hs=>p.row (r hs).1,fun hs hc=>?_⟩
    have e7 : s.needC T 7 = s.tl:=if_pos hc
    have t:=Sx.tl_e hs (by rw [hc];decide)
    have l1:=(r2 hs).2
    have l2:=p.len (r hs).1
    rw [e7] at l2
    omega
  | sdo hf h h1 =>
    have p:=hP _ _ _ _ h1
    exact ⟨p.ends,p.len,fun _=>rfl,fun hs _=>p.st hs h⟩
  | @swh _ s e s1 b s2 hf h h1 h2 =>
    have t:=fun hs=>Sx.tl_e (s:=s) hs (by rw [h];decide)
    have p:=hP _ _ _ _ h1
    have p2:=hP _ _ _ _ h2
    exact ⟨fun hs=>p2.ends (p.ends (t hs).1),fun hs=>by have:=p2.len (p.ends (t hs).1);have:=p.len (t hs).1;have:=(t hs).2;omega,fun _=>rfl,fun hs _=>by have:=p2.len (p.ends (t hs).1);have:=p.len (t hs).1;have:=(t hs).2;omega⟩
  | @sif _ s g s1 hf h h1 =>
    have t:=fun hs=>Sx.tl_e (s:=s) hs (by rw [h];decide)
    have q:=fun hs=>ifs_e hE hP h1 (t hs).1
    exact ⟨fun hs=>(q hs).1,fun hs=>by have:=(q hs).2.1;have:=(t hs).2;omega,fun _=>rfl,fun hs _=>by have:=(q hs).2.1;have:=(t hs).2;omega⟩
  | @sfo _ s f s1 hf h h1 =>
    have t:=fun hs=>Sx.tl_e (s:=s) hs (by rw [h];decide)
    have p:=hP _ _ _ _ h1
    exact ⟨fun hs=>p.ends (t hs).1,fun hs=>by have:=p.len (t hs).1;have:=(t hs).2;omega,fun hs=>p.row (t hs).1,fun hs _=>by have:=p.len (t hs).1;have:=(t hs).2;omega⟩
  | @slo _ s ns s1 hf h h1 h2 =>
    have t:=fun hs=>Sx.tl_e (s:=s) hs (by rw [h];decide)
    have p:=hP _ _ _ _ h1
    exact ⟨fun hs=>p.ends (t hs).1,fun hs=>by have:=p.len (t hs).1;have:=(t hs).2;omega,fun _=>rfl,fun hs _=>by have:=p.len (t hs).1;have:=(t hs).2;omega⟩
  | @sle _ s ns s1 g s2 hf h h1 h2 h3 =>
    have t:=fun hs=>Sx.tl_e (s:=s) hs (by rw [h];decide)
    have p:=hP _ _ _ _ h1
    have t2:=fun hs=>Sx.tl_e (p.ends (t hs).1) (by rw [h2];decide)
    have p2:=hP _ _ _ _ h3
    exact ⟨fun hs=>p2.ends (t2 hs).1,fun hs=>by have:=p2.len (t2 hs).1;have:=(t2 hs).2;have:=p.len (t hs).1;have:=(t hs).2;omega,fun _=>rfl,fun hs _=>by have:=p2.len (t2 hs).1;have:=(t2 hs).2;have:=p.len (t hs).1;have:=(t hs).2;omega⟩
  | @sbr _ s hf h =>
    have t:=fun hs=>Sx.tl_e (s:=s) hs (by rw [h];decide)
    exact ⟨fun hs=>(t hs).1,fun hs=>by have:=(t hs).2;omega,fun _=>rfl,fun hs _=>by have:=(t hs).2;omega⟩
  | spl hf h h1 =>
    have p:=hP _ _ _ _ h1
    exact ⟨p.ends,p.len,p.row,p.st⟩
  | @ln2 _ s e1 s2 e2 s4 b s5 h h1 h2 h3 h4 =>
    have r:=fun hs=>name_e (s:=s) hE hs
    have t:=fun hs=>Sx.tl_e (r hs).1 (by rw [h];decide)
    have p:=hP _ _ _ _ h1
    have r2:=fun hs=>need_e2 hE (p.ends (t hs).1) 15 (by decide)
    have p2:=hP _ _ _ _ h2
    have p3:=hP _ _ _ _ h4
    exact ⟨fun hs=>p3.ends (p2.ends (r2 hs).1),fun hs=>by have:=p3.len (p2.ends (r2 hs).1);have:=p2.len (r2 hs).1;have:=(r2 hs).2;have:=p.len (t hs).1;have:=(t hs).2;have:=(r hs).2;omega,fun _=>rfl,fun _=>trivial⟩
  | @ln3 _ s e1 s2 e2 s4 e3 s5 b s6 h h1 h2 h3 h4 h5 =>
    have r:=fun hs=>name_e (s:=s) hE hs
    have t:=fun hs=>Sx.tl_e (r hs).1 (by rw [h];decide)
    have p:=hP _ _ _ _ h1
    have r2:=fun hs=>need_e2 hE (p.ends (t hs).1) 15 (by decide)
    have p2:=hP _ _ _ _ h2
    have t2:=fun hs=>Sx.tl_e (p2.ends (r2 hs).1) (by rw [h3];decide)
    have p3:=hP _ _ _ _ h4
    have p4:=hP _ _ _ _ h5
    exact ⟨fun hs=>p4.ends (p3.ends (t2 hs).1),fun hs=>by have:=p4.len (p3.ends (t2 hs).1);have:=p3.len (t2 hs).1;have:=(t2 hs).2;have:=p2.len (r2 hs).1;have:=(r2 hs).2;have:=p.len (t hs).1;have:=(t hs).2;have:=(r hs).2;omega,fun _=>rfl,fun _=>trivial⟩
  | @lin _ s ns s2 g s4 b s5 h h1 h2 h3 =>
    have r:=fun hs=>name_e (s:=s) hE hs
    have q:=fun hs=>nms_e hE h1 (r hs).1
    have r2:=fun hs=>need_e2 hE (q hs).1 16 (by decide)
    have p2:=hP _ _ _ _ h2
    have p3:=hP _ _ _ _ h3
    exact ⟨fun hs=>p3.ends (p2.ends (r2 hs).1),fun hs=>by have:=p3.len (p2.ends (r2 hs).1);have:=p2.len (r2 hs).1;have:=(r2 hs).2;have:=(q hs).2.2;have:=(r hs).2;omega,fun _=>rfl,fun _=>trivial⟩
  | prn h1 h hk =>
    have p:=hP _ _ _ _ h1
    exact ⟨p.ends,p.len,fun _=>rfl,p.st⟩
  | prb h1 h hk =>
    have p:=hP _ _ _ _ h1
    have r:=fun hs=>bad_e hE (p.ends hs)
    exact ⟨fun hs=>(r hs _).1,fun hs=>by have:=(r hs 0).2;have:=p.len hs;exact Nat.le_trans (r hs _).2 (p.len hs),fun _=>rfl,fun hs hc=>by have:=p.st hs hc;have:=(r hs 0).2;exact Nat.le_trans (Nat.succ_le_succ (r hs _).2) (p.st hs hc)⟩
  | @pas _ s e s1 ts s2 g s4 h1 h h2 h3 =>
    have p:=hP _ _ _ _ h1
    have q:=fun hs=>asg_e hE hP h2 (p.ends hs) (p.row hs)
    have r2:=fun hs=>need_e2 hE (q hs).1 14 (by decide)
    have p2:=hP _ _ _ _ h3
    exact ⟨fun hs=>p2.ends (r2 hs).1,fun hs=>by have:=p2.len (r2 hs).1;have:=(r2 hs).2;have:=(q hs).2.1;have:=p.len hs;omega,fun _=>rfl,fun hs hc=>by have:=p2.len (r2 hs).1;have:=(r2 hs).2;have:=(q hs).2.1;have : s1.l.length + 1 ≤ s.l.length:=p.st hs hc;omega⟩
end
end Go.Proofs.YtlgkfhipobdcfaaGreatDoor


namespace Go.Proofs.YtlgkfhipobdcfaaGreatDoor
open Go.RowKit
set_option maxRecDepth 20000
theorem RS.make {w : World} {v : Value} {ts : List Tok} {b base : Nat} (own : w.ownsRow base 63 4 v ts.length (cellsT ts)) (hp : Bx b 60 #[v,.int .i64 0,.int .i64 (-1)] w) (hlt : ∀ g,v.ownBlock = some g → g < b) (ends : Ends ts) (small : ts.length ≤ 20001) : RS b (b + 1) ts ts (-1) w:=by
  have hb:=hp.lt
  rcases own.2 with ⟨rfl,h0⟩ | ⟨g,cap,cur,rfl,h2,h3,r1,r2,r3,r4⟩
  · exact absurd (List.eq_nil_of_length_eq_zero h0) ends.ne
  · have hg:=hlt g rfl
    refine ⟨⟨⟨g,cap,hp.c 0 _ rfl,by omega,by omega,fun j u hu=>?_⟩,⟨0,hp.c 1 _ rfl,rfl,by simp⟩,hp.f 1,⟨by omega,by omega⟩,ends,small⟩,hp.c 2 _ rfl,hp.f 2⟩
    rw [cell_of_row w g j cur 63 (0,0) h3]
    rw [← r4] at hu
    rw [List.getElem?_take] at hu
    split at hu
    · simpa using hu
    · cases hu
set_option maxHeartbeats 4000000 in
theorem fin10 {Post : Ending → World → Prop} {W : World} {a : Nat} {k n p : Int} {t : ByteArray} {sa : Option Addr} {sl sc : Nat} {c x : Int} {A : Array Value} (hA2 : A[2]? = some (.pointer (some ⟨a,0,none⟩))) (hA3 : A[3]? = some (.pointer (some ⟨a + 1,0,none⟩))) (h0 : Bx a 32 #[.int .i64 k,.string t,.int .i64 n,.int .i64 p,.slice sa sl sc] W) (h1 : Bx (a + 1) 27 #[.int .i64 c,.int .i64 x] W)
    (h : Post (.returned (.tuple #[.agg #[.int .i64 k,.string t,.int .i64 n,.int .i64 p,.slice sa sl sc],.agg #[.int .i64 c,.int .i64 x]])) W) :
    bodyPost Tryz.prog Tryz.f10 Post Exit.ret ⟨A,[]⟩ W:=by
  obtain ⟨z0,z1,z2,z3,z4⟩:=h0.five
  have y0:=h1.c 0 _ rfl
  have y1:=h1.c 1 _ rfl
  refine bodyPost_ret (v:=.tuple #[.agg #[.int .i64 k,.string t,.int .i64 n,.int .i64 p,.slice sa sl sc],.agg #[.int .i64 c,.int .i64 x]]) ?_ rfl h
  simp [results,Tryz.results10,go_sem,hA2,hA3,z0,z1,z2,z3,z4,y0,y1]
def RSc (s : ByteArray) : Prop:=∀ w : World,Calls Tryz.prog 23 #[.string s] w fun e W'=>∃ v,e = .returned (.tuple #[v,.agg #[.int .i64 (scT s.data.toList).2.1,.int .i64 (scT s.data.toList).2.2]]) ∧ W'.ownsRow w.heap.size 63 4 v (scT s.data.toList).1.length (cellsT (scT s.data.toList).1) ∧ Below w.heap.size w W'
set_option maxHeartbeats 4000000 in
theorem rParse_fault (s : ByteArray) (w : World) (CS0 : RSc s) (ts : List Tok) (c x : Int) (hsc : scT s.data.toList = (ts,c,x)) (hc : ¬ c = 0) :
    Calls Tryz.prog 10 #[.string s] w fun e W'=>e = .returned (.tuple #[(.agg #[.int .i64 (0),.string ⟨#[]⟩,.int .i64 (0),.int .i64 (0),.slice none 0 0]),.agg #[.int .i64 c,.int .i64 x]]) ∧ Below w.heap.size w W':=by
  have hc' : (c == 0) = false:=by simpa using hc
  have CS:=CS0 ((w.alloc (.cells #[.int .i64 0,.string ⟨#[]⟩,.int .i64 0,.int .i64 0,.slice none 0 0] 32)).alloc (.cells #[.int .i64 0,.int .i64 0] 27))
  rw [hsc] at CS
  simp only at CS
  have B0:=(Bx.new w 32 #[.int .i64 0,.string ⟨#[]⟩,.int .i64 0,.int .i64 0,.slice none 0 0]).alloc (.cells #[.int .i64 0,.int .i64 0] 27)
  have B1:=Bx.new (w.alloc (.cells #[.int .i64 0,.string ⟨#[]⟩,.int .i64 0,.int .i64 0,.slice none 0 0] 32)) 27 #[.int .i64 0,.int .i64 0]
  have e1 : (w.alloc (.cells #[.int .i64 0,.string ⟨#[]⟩,.int .i64 0,.int .i64 0,.slice none 0 0] 32)).heap.size = w.heap.size + 1:=by simp
  rw [e1] at B1
  have K0 : Below w.heap.size w ((w.alloc (.cells #[.int .i64 0,.string ⟨#[]⟩,.int .i64 0,.int .i64 0,.slice none 0 0] 32)).alloc (.cells #[.int .i64 0,.int .i64 0] 27)):=((Below.refl _ w).alloc (Nat.le_refl _) _).alloc (by simp) _
  clear e1
  go_enter Tryz.func10,Tryz.ntmps10
  go_wp2_with fail
  refine CS.mono ?_;rintro e w1 ⟨v,rfl,hown,hB⟩
  have C0:=B0.below hB
  have C1:=B1.below hB
  have KB:=K0.trans (hB.mono K0.size)
  obtain ⟨av,cv,rfl⟩:=slice_shape hown
  obtain ⟨X,hX⟩ : ∃ X,w1.heap.size = X:=⟨_,rfl⟩
  have hXl:=C1.lt
  have B2:=Bx.new w1 27 #[.int .i64 c,.int .i64 x]
  rw [hX] at B2 hXl
  have D0:=C0.alloc (.cells #[.int .i64 c,.int .i64 x] 27)
  have D1:=C1.alloc (.cells #[.int .i64 c,.int .i64 x] 27)
  have KD:=KB.alloc (by omega) (.cells #[.int .i64 c,.int .i64 x] 27)
  obtain ⟨W1,hW1⟩ : ∃ W1,w1.alloc (.cells #[.int .i64 c,.int .i64 x] 27) = W1:=⟨_,rfl⟩
  rw [hW1] at B2 D0 D1 KD
  have HW1 : Hid (w1.alloc (.cells #[.int .i64 c,.int .i64 x] 27) = W1):=hW1
  obtain ⟨q0,q1,q2,q3,q4⟩:=D0.five
  obtain ⟨f0,f1,f2,f3,f4⟩:=D0.frozen5
  have r0:=D1.c 0 _ rfl
  have r1:=D1.c 1 _ rfl
  have g0:=D1.f 0
  have g1:=D1.f 1
  have y0:=B2.c 0 _ rfl
  have y1:=B2.c 1 _ rfl
  have HD : Hid (Bx w.heap.size 32 #[.int .i64 0,.string ⟨#[]⟩,.int .i64 0,.int .i64 0,.slice none 0 0] W1 ∧ Bx (w.heap.size + 1) 27 #[.int .i64 0,.int .i64 0] W1 ∧ Below w.heap.size w W1):=⟨D0,D1,KD⟩
  clear B2 D0 D1 KD hW1 hown hB C0 C1 KB CS B0 B1 K0
  go_wp2_with fail
  rw [HW1.out]
  go_region
  all_goals
    go_wp2
    have D1:=((HD.out.1.five_put (.int .i64 0) (.string ⟨#[]⟩) (.int .i64 0) (.int .i64 0) (.slice none 0 0)).set (b:=w.heap.size + 1) (o:=0) (by omega) (.int .i64 c) |>.set (b:=w.heap.size + 1) (o:=1) (by omega) (.int .i64 x)).drew
    have E1:=(((HD.out.2.1.five_set (Y:=w.heap.size) (by omega) (.int .i64 0) (.string ⟨#[]⟩) (.int .i64 0) (.int .i64 0) (.slice none 0 0)).put (j:=0) (.int .i64 c)).put (j:=1) (.int .i64 x)).drew
    have K9:=(((((((HD.out.2.2.setCell (p:=⟨w.heap.size,0,none⟩) (Nat.le_refl _) (.int .i64 0)).setCell (p:=⟨w.heap.size,1,none⟩) (Nat.le_refl _) (.string ⟨#[]⟩)).setCell (p:=⟨w.heap.size,2,none⟩) (Nat.le_refl _) (.int .i64 0)).setCell (p:=⟨w.heap.size,3,none⟩) (Nat.le_refl _) (.int .i64 0)).setCell (p:=⟨w.heap.size,4,none⟩) (Nat.le_refl _) (.slice none 0 0)).setCell (p:=⟨w.heap.size + 1,0,none⟩) (Nat.le_succ _) (.int .i64 c)).setCell (p:=⟨w.heap.size + 1,1,none⟩) (Nat.le_succ _) (.int .i64 x)).drew
    generalize World.drew _ = W3 at D1 E1 K9 ⊢
    exact fin10 rfl rfl D1 E1 ⟨rfl,K9⟩
theorem c56 (s : Sx) (h : s.f < 0) : s.c = 56 ↔ s.t.k = 6:=by
  unfold Sx.c
  rw [if_pos h]
  constructor
  · intro e
    unfold cls at e
    split at e
    · have:=code_le s.t.t;omega
    split at e
    · cases e
    split at e
    · cases e
    split at e
    · cases e
    split at e
    · assumption
    · cases e
  · exact fun e=>cls_of_kind s.t 6 e (by decide)
theorem blk_end {ts : List Tok} (ends : Ends ts) (x : PR) (hx : pr (8 * ts.length + 4) (.blk true) ts = x) (hO : Oc ts (CR ts (.blk true) (at' ts)) x) :
    ∃ f s',CR ts (.blk true) (at' ts) f s' ∧ ((0 ≤ s'.f ∧ outT (chk ts) = (noF,4,s'.f)) ∨ (s'.f = -1 ∧ s'.t.k = 6 ∧ outT (chk ts) = (f,0,0)) ∨ (s'.f = -1 ∧ ¬ s'.t.k = 6 ∧ outT (chk ts) = (noF,4,(s'.t.p : Int)))):=by
  have hno:=pr_enough (8 * ts.length + 4) (.blk true) ts (by simp only [rk];omega)
  have hch : chk ts = x.bind fun f m=>if hc m = 56 then .ok f m else .bad (ha m):=by unfold chk;rw [hx]
  cases x with
  | out=>exact absurd hx hno
  | bad p =>
    obtain ⟨hp,f,hf⟩:=hO
    exact ⟨f,no' ts p,hf,.inl ⟨hp,by rw [hch];rfl⟩⟩
  | ok g m =>
    have hO' : CR ts (.blk true) (at' ts) g (at' m):=hO
    have he : Ends m:=hO'.pz.ends ends
    have h1:=at_c m he.ne
    have h2:=c56 (at' m) (show (-1 : Int) < 0 by decide)
    by_cases h : hc m = 56
    · refine ⟨g,at' m,hO',.inr (.inl ⟨rfl,h2.1 (h1.trans h),?_⟩)⟩
      rw [hch]
      show outT (if hc m = 56 then _ else _) = _
      rw [if_pos h];rfl
    · refine ⟨g,at' m,hO',.inr (.inr ⟨rfl,fun e=>h (h1.symm.trans (h2.2 e)),?_⟩)⟩
      rw [hch]
      show outT (if hc m = 56 then _ else _) = _
      rw [if_neg h,at_t];rfl
set_option maxHeartbeats 8000000 in
theorem rParse_go (s : ByteArray) (w : World) (CS0 : RSc s) (ts : List Tok) (hsc : scT s.data.toList = (ts,0,0)) (ends : Ends ts) (small : ts.length ≤ 20001) (x : PR) (hx : pr (8 * ts.length + 4) (.blk true) ts = x) (hO : Oc ts (CR ts (.blk true) (at' ts)) x) :
    Calls Tryz.prog 10 #[.string s] w fun e W'=>∃ k t n p a c ks cd x,e = .returned (.tuple #[(.agg #[.int .i64 (k),.string ⟨(t).toArray⟩,.int .i64 (n),.int .i64 (p),.slice a ks.len c]),.agg #[.int .i64 cd,.int .i64 x]]) ∧ (one k t n p ks,cd,x) = outT (chk ts) ∧ TN 32 W' (fun g=>w.heap.size ≤ g) k t n p (.slice a ks.len c) ks ∧ Below w.heap.size w W':=by
  have CS:=CS0 ((w.alloc (.cells #[.int .i64 0,.string ⟨#[]⟩,.int .i64 0,.int .i64 0,.slice none 0 0] 32)).alloc (.cells #[.int .i64 0,.int .i64 0] 27))
  rw [hsc] at CS
  simp only at CS
  have B0:=(Bx.new w 32 #[.int .i64 0,.string ⟨#[]⟩,.int .i64 0,.int .i64 0,.slice none 0 0]).alloc (.cells #[.int .i64 0,.int .i64 0] 27)
  have B1:=Bx.new (w.alloc (.cells #[.int .i64 0,.string ⟨#[]⟩,.int .i64 0,.int .i64 0,.slice none 0 0] 32)) 27 #[.int .i64 0,.int .i64 0]
  have e1 : (w.alloc (.cells #[.int .i64 0,.string ⟨#[]⟩,.int .i64 0,.int .i64 0,.slice none 0 0] 32)).heap.size = w.heap.size + 1:=by simp
  rw [e1] at B1
  have K0 : Below w.heap.size w ((w.alloc (.cells #[.int .i64 0,.string ⟨#[]⟩,.int .i64 0,.int .i64 0,.slice none 0 0] 32)).alloc (.cells #[.int .i64 0,.int .i64 0] 27)):=((Below.refl _ w).alloc (Nat.le_refl _) _).alloc (by simp) _
  clear e1
  go_enter Tryz.func10,Tryz.ntmps10
  go_wp2_with fail
  refine CS.mono ?_;rintro e w1 ⟨v,rfl,hown,hB⟩
  have C0:=B0.below hB
  have C1:=B1.below hB
  have KB:=K0.trans (hB.mono K0.size)
  obtain ⟨av,cv,rfl⟩:=slice_shape hown
  obtain ⟨X,hX⟩ : ∃ X,w1.heap.size = X:=⟨_,rfl⟩
  have hXl:=C1.lt
  have B2:=Bx.new w1 27 #[.int .i64 0,.int .i64 0]
  rw [hX] at B2 hXl
  have D0:=C0.alloc (.cells #[.int .i64 0,.int .i64 0] 27)
  have D1:=C1.alloc (.cells #[.int .i64 0,.int .i64 0] 27)
  have KD:=KB.alloc (by omega) (.cells #[.int .i64 0,.int .i64 0] 27)
  have hz : (w1.alloc (.cells #[.int .i64 0,.int .i64 0] 27)).heap.size = X + 1:=by simp [hX]
  have own2:=own_below hown ((Below.refl _ w1).alloc (Nat.le_refl _) (.cells #[.int .i64 0,.int .i64 0] 27))
  have hlt : ∀ g,(Value.slice av ts.length cv).ownBlock = some g → g < X + 1:=fun g e=>by have:=(hown.lt g e).2;omega
  obtain ⟨W1,hW1⟩ : ∃ W1,w1.alloc (.cells #[.int .i64 0,.int .i64 0] 27) = W1:=⟨_,rfl⟩
  rw [hW1] at B2 D0 D1 KD hz own2
  have HW1 : Hid (w1.alloc (.cells #[.int .i64 0,.int .i64 0] 27) = W1):=hW1
  have y0:=B2.c 0 _ rfl
  have y1:=B2.c 1 _ rfl
  have HD : Hid (Bx w.heap.size 32 #[.int .i64 0,.string ⟨#[]⟩,.int .i64 0,.int .i64 0,.slice none 0 0] W1 ∧ Bx (w.heap.size + 1) 27 #[.int .i64 0,.int .i64 0] W1 ∧ Below w.heap.size w W1):=⟨D0,D1,KD⟩
  clear B2 D0 D1 KD hW1 hown hB C0 C1 KB CS B0 B1 K0
  go_wp2_with fail
  rw [HW1.out]
  have B5:=Bx.new W1 60 #[.slice av ts.length cv,.int .i64 0,.int .i64 (-1)]
  rw [hz] at B5
  have P5:=RS.make (own_below own2 ((Below.refl _ W1).alloc (Nat.le_refl _) (.cells #[.slice av ts.length cv,.int .i64 0,.int .i64 (-1)] 60))) B5 hlt ends small
  have E0:=HD.out.1.alloc (.cells #[.slice av ts.length cv,.int .i64 0,.int .i64 (-1)] 60)
  have E1:=HD.out.2.1.alloc (.cells #[.slice av ts.length cv,.int .i64 0,.int .i64 (-1)] 60)
  have KE:=HD.out.2.2.alloc (by omega) (.cells #[.slice av ts.length cv,.int .i64 0,.int .i64 (-1)] 60)
  obtain ⟨W5,hW5⟩ : ∃ W5,W1.alloc (.cells #[.slice av ts.length cv,.int .i64 0,.int .i64 (-1)] 60) = W5:=⟨_,rfl⟩
  rw [hW5] at P5 E0 E1 KE ⊢
  obtain ⟨f,s',hC,hcs⟩:=blk_end ends x hx hO
  refine (hC.cl (X + 1) (X + 2) W5 P5).mono ?_;rintro e w6 ⟨k,t,n,p,a,c,ks,rfl,rfl,hTN,hTt⟩
  have hmW:=P5.ps.lt.2
  have F0:=E0.ky hTt.ky (by omega)
  have F1:=E1.ky hTt.ky (by omega)
  have KF : Below w.heap.size w w6:=KE.trans ⟨hTt.ky.os,hTt.ky.tape,hTt.ky.output,hTt.ky.size,fun g hg=>hTt.ky.block g (by have:=KE.size;omega) (by omega)⟩
  have hRT : RT (X + 1) (X + 2) ts s' w6:=hTt.rs
  have hz6 : X + 2 ≤ w6.heap.size:=Nat.le_trans hmW hTt.ky.size
  have hTN6 : TN 32 w6 (fun g=>X + 2 ≤ g) k t n p (.slice a ks.len c) ks:=hTN.mono fun g hg _=>by omega
  clear B5 P5 E0 E1 KE hW5 HD hTt hTN own2 hlt hz HW1 y0 y1 hmW hO hx
  obtain ⟨Z,hZ⟩ : ∃ Z,w6.heap.size = Z:=⟨_,rfl⟩
  have B6:=Bx.new w6 32 #[.int .i64 k,.string ⟨t.toArray⟩,.int .i64 n,.int .i64 p,.slice a ks.len c]
  have KB6 : Below w6.heap.size w6 (w6.alloc (.cells #[.int .i64 k,.string ⟨t.toArray⟩,.int .i64 n,.int .i64 p,.slice a ks.len c] 32)):=(Below.refl _ w6).alloc (Nat.le_refl _) _
  have G0:=F0.below KB6
  have G1:=F1.below KB6
  have KG:=KF.trans (KB6.mono KF.size)
  have hTG:=hTN6.keep (w':=w6.alloc (.cells #[.int .i64 k,.string ⟨t.toArray⟩,.int .i64 n,.int .i64 p,.slice a ks.len c] 32)) fun g _ hl=>KB6.block g hl
  have hRG : RT (X + 1) (X + 2) ts s' (w6.alloc (.cells #[.int .i64 k,.string ⟨t.toArray⟩,.int .i64 n,.int .i64 p,.slice a ks.len c] 32)):=RS.below hRT KB6
  rw [hZ] at B6
  obtain ⟨W6,hW6⟩ : ∃ W6,w6.alloc (.cells #[.int .i64 k,.string ⟨t.toArray⟩,.int .i64 n,.int .i64 p,.slice a ks.len c] 32) = W6:=⟨_,rfl⟩
  rw [hW6] at B6 G0 G1 KG hTG hRG
  have HW6 : Hid (w6.alloc (.cells #[.int .i64 k,.string ⟨t.toArray⟩,.int .i64 n,.int .i64 p,.slice a ks.len c] 32) = W6):=hW6
  clear F0 F1 KF hRT hTN6 KB6 hW6
  have HG : Hid (Bx w.heap.size 32 #[.int .i64 0,.string ⟨#[]⟩,.int .i64 0,.int .i64 0,.slice none 0 0] W6 ∧ Bx (w.heap.size + 1) 27 #[.int .i64 0,.int .i64 0] W6 ∧ Below w.heap.size w W6 ∧ TN 32 W6 (fun g=>X + 2 ≤ g) k t n p (.slice a ks.len c) ks ∧ RT (X + 1) (X + 2) ts s' W6 ∧ Bx Z 32 #[.int .i64 k,.string ⟨t.toArray⟩,.int .i64 n,.int .i64 p,.slice a ks.len c] W6):=⟨G0,G1,KG,hTG,hRG,B6⟩
  clear G0 G1 KG hTG hRG B6
  go_wp2_with fail
  rw [HW6.out]
  clear HW6
  obtain ⟨q0,q1,q2,q3,q4⟩:=HG.out.1.five
  obtain ⟨f0,f1,f2,f3,f4⟩:=HG.out.1.frozen5
  have r0:=HG.out.2.1.c 0 _ rfl
  have r1:=HG.out.2.1.c 1 _ rfl
  have g0:=HG.out.2.1.f 0
  have g1:=HG.out.2.1.f 1
  obtain ⟨gb,cap,i,-,-,-,h3,h4,-,-,-,-,t1,t2,d0,d1,d2,d3⟩:=(RT.cons HG.out.2.2.2.2.1).readsA
  have fl : W6.cell? ⟨X + 1,2,none⟩ = some (.int .i64 s'.f):=HG.out.2.2.2.2.1.fl
  obtain ⟨z0,z1,z2,z3,z4⟩:=HG.out.2.2.2.2.2.five
  rcases hcs with ⟨hp,hq⟩ | ⟨hf1,hk6,hq⟩ | ⟨hf1,hk6,hq⟩
  · have hn : ¬ s'.f < 0:=by omega
    clear d0 d1 d2 d3 t1 t2 z0 z1 z2 z3 z4
    generalize hsf : s'.f = q at *
    go_region
    all_goals
      go_wp2
      go_region
    all_goals
      go_wp2
      have D1:=((HG.out.1.five_put (.int .i64 0) (.string ⟨#[]⟩) (.int .i64 0) (.int .i64 0) (.slice none 0 0)).set (b:=w.heap.size + 1) (o:=0) (by omega) (.int .i64 4) |>.set (b:=w.heap.size + 1) (o:=1) (by omega) (.int .i64 q)).drew.drew
      have E1:=(((HG.out.2.1.five_set (Y:=w.heap.size) (by omega) (.int .i64 0) (.string ⟨#[]⟩) (.int .i64 0) (.int .i64 0) (.slice none 0 0)).put (j:=0) (.int .i64 4)).put (j:=1) (.int .i64 q)).drew.drew
      have K9:=(((((((HG.out.2.2.1.setCell (p:=⟨w.heap.size,0,none⟩) (Nat.le_refl _) (.int .i64 0)).setCell (p:=⟨w.heap.size,1,none⟩) (Nat.le_refl _) (.string ⟨#[]⟩)).setCell (p:=⟨w.heap.size,2,none⟩) (Nat.le_refl _) (.int .i64 0)).setCell (p:=⟨w.heap.size,3,none⟩) (Nat.le_refl _) (.int .i64 0)).setCell (p:=⟨w.heap.size,4,none⟩) (Nat.le_refl _) (.slice none 0 0)).setCell (p:=⟨w.heap.size + 1,0,none⟩) (Nat.le_succ _) (.int .i64 4)).setCell (p:=⟨w.heap.size + 1,1,none⟩) (Nat.le_succ _) (.int .i64 q)).drew.drew
      generalize World.drew _ = W3 at D1 E1 K9 ⊢
      exact fin10 rfl rfl D1 E1 ⟨0,[],0,0,none,0,.nil,4,q,rfl,hq.symm,TN.leaf _ _ _ _ _ _ _,K9⟩
  · have hk6' : (s'.t.k == 6) = true:=by simpa using hk6
    rw [hk6] at d0
    rw [hf1] at fl
    go_region
    all_goals
      go_wp2
      have D1:=((HG.out.1.five_put (.int .i64 k) (.string ⟨t.toArray⟩) (.int .i64 n) (.int .i64 p) (.slice a ks.len c)).set (b:=w.heap.size + 1) (o:=0) (by omega) (.int .i64 0) |>.set (b:=w.heap.size + 1) (o:=1) (by omega) (.int .i64 0)).drew
      have E1:=(((HG.out.2.1.five_set (Y:=w.heap.size) (by omega) (.int .i64 k) (.string ⟨t.toArray⟩) (.int .i64 n) (.int .i64 p) (.slice a ks.len c)).put (j:=0) (.int .i64 0)).put (j:=1) (.int .i64 0)).drew
      have K9:=(((((((HG.out.2.2.1.setCell (p:=⟨w.heap.size,0,none⟩) (Nat.le_refl _) (.int .i64 k)).setCell (p:=⟨w.heap.size,1,none⟩) (Nat.le_refl _) (.string ⟨t.toArray⟩)).setCell (p:=⟨w.heap.size,2,none⟩) (Nat.le_refl _) (.int .i64 n)).setCell (p:=⟨w.heap.size,3,none⟩) (Nat.le_refl _) (.int .i64 p)).setCell (p:=⟨w.heap.size,4,none⟩) (Nat.le_refl _) (.slice a ks.len c)).setCell (p:=⟨w.heap.size + 1,0,none⟩) (Nat.le_succ _) (.int .i64 0)).setCell (p:=⟨w.heap.size + 1,1,none⟩) (Nat.le_succ _) (.int .i64 0)).drew
      have T9:=(((HG.out.2.2.2.1.five (X:=w.heap.size) (by omega) (.int .i64 k) (.string ⟨t.toArray⟩) (.int .i64 n) (.int .i64 p) (.slice a ks.len c)).set (X:=w.heap.size + 1) (o:=0) (by omega) (.int .i64 0)).set (X:=w.heap.size + 1) (o:=1) (by omega) (.int .i64 0)).below ((Below.refl _ _).drew)
      generalize World.drew _ = W3 at D1 E1 K9 T9 ⊢
      exact fin10 rfl rfl D1 E1 ⟨k,t,n,p,a,c,ks,0,0,rfl,hq.symm,T9.mono (fun g hg _=>by omega),K9⟩
  · have hk6' : (s'.t.k == 6) = false:=by simpa using hk6
    have hk7 : (s'.t.k != 6) = true:=by simpa using hk6
    rw [hf1] at fl
    have C26:=at_s (X + 1) (X + 2) ts s' W6.drew (RS.drew HG.out.2.2.2.2.1)
    go_region
    all_goals
      go_wp2_with fail
      refine C26.mono ?_;rintro e w7 ⟨rfl,hb7⟩
      have C25:=bad_s (X + 1) (X + 2) ts s' s'.t.p w7 (RS.below (RS.drew HG.out.2.2.2.2.1) hb7)
      go_wp2_with fail
      refine C25.mono ?_;rintro e w8 ⟨rfl,T8⟩
      have hfl : (s'.bad ts s'.t.p).f = (s'.t.p : Int):=by unfold Sx.bad bdF;exact if_pos (by omega)
      have M0:=(HG.out.1.drew.below hb7).ky T8.ky (by omega)
      have M1:=(HG.out.2.1.drew.below hb7).ky T8.ky (by omega)
      have MK : Below w.heap.size w w8:=(HG.out.2.2.1.drew.trans (hb7.mono HG.out.2.2.1.drew.size)).trans ⟨T8.ky.os,T8.ky.tape,T8.ky.output,T8.ky.size,fun g hg=>T8.ky.block g (by have:=HG.out.2.2.1.size;have:=hb7.size;have : W6.drew.heap.size = W6.heap.size:=rfl;omega) (by omega)⟩
      have fl8 : w8.cell? ⟨X + 1,2,none⟩ = some (.int .i64 s'.t.p):=by have:=T8.rs.fl;rw [hfl] at this;exact this
      obtain ⟨q0,q1,q2,q3,q4⟩:=M0.five
      obtain ⟨f0,f1,f2,f3,f4⟩:=M0.frozen5
      have r0:=M1.c 0 _ rfl
      have r1:=M1.c 1 _ rfl
      have g0:=M1.f 0
      have g1:=M1.f 1
      have HM : Hid (Bx w.heap.size 32 #[.int .i64 0,.string ⟨#[]⟩,.int .i64 0,.int .i64 0,.slice none 0 0] w8 ∧ Bx (w.heap.size + 1) 27 #[.int .i64 0,.int .i64 0] w8 ∧ Below w.heap.size w w8):=⟨M0,M1,MK⟩
      clear C25 C26 T8 M0 M1 MK HG hb7 z0 z1 z2 z3 z4 d0 d1 d2 d3 t1 t2
      generalize (s'.t.p : Nat) = q at *
      have hq0 : (0 : Int) ≤ (q : Int):=by omega
      go_wp2_with fail
      go_region
    all_goals
      go_wp2
      have D1:=((HM.out.1.five_put (.int .i64 0) (.string ⟨#[]⟩) (.int .i64 0) (.int .i64 0) (.slice none 0 0)).set (b:=w.heap.size + 1) (o:=0) (by omega) (.int .i64 4) |>.set (b:=w.heap.size + 1) (o:=1) (by omega) (.int .i64 q)).drew
      have E1:=(((HM.out.2.1.five_set (Y:=w.heap.size) (by omega) (.int .i64 0) (.string ⟨#[]⟩) (.int .i64 0) (.int .i64 0) (.slice none 0 0)).put (j:=0) (.int .i64 4)).put (j:=1) (.int .i64 q)).drew
      have K9:=(((((((HM.out.2.2.setCell (p:=⟨w.heap.size,0,none⟩) (Nat.le_refl _) (.int .i64 0)).setCell (p:=⟨w.heap.size,1,none⟩) (Nat.le_refl _) (.string ⟨#[]⟩)).setCell (p:=⟨w.heap.size,2,none⟩) (Nat.le_refl _) (.int .i64 0)).setCell (p:=⟨w.heap.size,3,none⟩) (Nat.le_refl _) (.int .i64 0)).setCell (p:=⟨w.heap.size,4,none⟩) (Nat.le_refl _) (.slice none 0 0)).setCell (p:=⟨w.heap.size + 1,0,none⟩) (Nat.le_succ _) (.int .i64 4)).setCell (p:=⟨w.heap.size + 1,1,none⟩) (Nat.le_succ _) (.int .i64 q)).drew
      generalize World.drew _ = W3 at D1 E1 K9 ⊢
      exact fin10 rfl rfl D1 E1 ⟨0,[],0,0,none,0,.nil,4,q,rfl,hq.symm,TN.leaf _ _ _ _ _ _ _,K9⟩
end Go.Proofs.YtlgkfhipobdcfaaGreatDoor


namespace Go.Proofs.YtlgkfhipobdcfaaGreatDoor
open Go.RowKit
set_option maxRecDepth 20000
theorem info32 : (Tryz.prog.info? 32).map (fun i=>(i.zero,i.size,i.bytes)) = some (some (.agg #[.int .i64 0,.string ⟨#[]⟩,.int .i64 0,.int .i64 0,.slice none 0 0]),5,64):=by kernel_rfl
theorem Tr.onto {b m : Nat} {T l : List Tok} {f : Int} {W w w2 : World} {S : Nat → Prop} (h : Tr b m T l f W w) (k : Ky S w w2) (hS : ∀ x,S x → W.heap.size ≤ x) (hm : m ≤ W.heap.size) : Tr b m T l f W w2 :=
  ⟨h.rs.ky k (fun x hx e=>by have:=hS x e;omega),h.ky.onto k (fun i hi e=>by have:=hS i e;omega)⟩
structure Rr (b m : Nat) (T : List Tok) (s : Sx) (W w : World) (a : Option Addr) (c : Nat) (f : F) : Prop where
  tr : Tt b m T s W w
  kl : KL 32 (fun g=>W.heap.size ≤ g) w (.slice a f.len c) f
  lt : b < W.heap.size ∧ m ≤ W.heap.size
theorem Rr.go {b m : Nat} {T : List Tok} {s s' : Sx} {W w w' : World} {a : Option Addr} {c : Nat} {f : F} (h : Rr b m T s W w a c f) (k : Tt b m T s' w w') : Rr b m T s' W w' a c f :=
  ⟨Tr.trans h.tr k,h.kl.keep fun g hg hl=>k.ky.block g hl (fun e=>by have:=h.lt.1;omega),h.lt⟩
theorem Rr.below {b m : Nat} {T : List Tok} {s : Sx} {W w w' : World} {a : Option Addr} {c : Nat} {f : F} (h : Rr b m T s W w a c f) (k : Below w.heap.size w w') : Rr b m T s W w' a c f :=
  ⟨Tr.below h.tr k,h.kl.keep fun g _ hl=>k.block g hl,h.lt⟩
theorem app_kl {ops : Array Oper} {rest : List Oper} {o : Oper} {ac : Act} {Q : Exit → Act → World → Prop} {P : Nat → Prop} {w : World} {a : Option Addr} {c c2 : Nat} {f n : F} {ad : Addr} {news : List Value} (hgd : o.guard = none) (s x : Operand)
    (ho : o.op = .call { callee:=.builtin .append,args:=#[s,x],argTypes:=#[30,30] }) (h : KL 32 P w (.slice a f.len c) f) (hnew : ∀ x,w.heap.size ≤ x → P x) (hB : f.len + n.len ≤ 100000) (hn : 0 < n.len)
    (hk : KF 32 w (fun g=>P g ∧ some g ≠ Value.ownBlock (.slice a f.len c)) news n) (hs : ac.eval s = .slice a f.len c) (hx : ac.eval x = .slice (some ad) n.len c2) (hnews : ∀ j u,news[j]? = some u → w.cell? (ad.add j) = some u)
    (hK : ∀ g cc w2,KL 32 P w2 (.slice (some ⟨g,0,none⟩) (f.app n).len cc) (f.app n) → Ky (fun k=>some k = Value.ownBlock (.slice a f.len c)) w w2 → (Value.ownBlock (.slice a f.len c) = some g ∨ w.heap.size ≤ g) → wpList Tryz.prog ops Q rest (ac.put o.dst (.slice (some ⟨g,0,none⟩) (f.app n).len cc)) w2) :
    wpList Tryz.prog ops Q (o :: rest) ac w:=by
  obtain ⟨i0,hi0,hz0,hz1,hz2⟩:=info_parts info32
  obtain ⟨xs,hown,hP,hkf⟩:=h.out
  refine wpList_append_lies _ hgd s x 30 ho 0 32 i0 _ 5 64 Tryz.underlying30 hi0 hz0 hz1 hz2 rfl (by omega) (.slice a f.len c) f.len xs hs hown ad n.len c2 news hx hk.len hnews hk.one hn (by unfold maxLen;omega) (by omega) (Nat.zero_le _) w.heap.size rfl ?_
  intro g cc w2 hown2 hg hat _
  have hl1 : (f.app n).len = f.len + n.len:=F.len_app _ _
  have:=KL.snoc hP hkf hk hown2 (fun k hk hn=>hg.block k hk hn) hnew (hat.imp id (fun e=>by omega))
  have h2:=hK g cc w2 (by rw [hl1];exact this) ⟨hg.os,hg.tape,hg.output,hg.size,fun i hi hn=>hg.block i hi hn⟩ (hat.imp id fun e=>by omega)
  rw [hl1] at h2
  exact h2
theorem app_rr {ops : Array Oper} {rest : List Oper} {o : Oper} {ac : Act} {Q : Exit → Act → World → Prop} {b m : Nat} {T : List Tok} {s0 s : Sx} {W w0 w1 : World} {a a' : Option Addr} {c c' : Nat} {f ks : F} {k : Int} {t : List UInt8} {n p : Int} (hgd : o.guard = none) (sv x : Operand)
    (ho : o.op = .call { callee:=.builtin .append,args:=#[sv,x],argTypes:=#[30,30] }) (h : Rr b m T s0 W w0 a c f) (hT : Tt b m T s w0 w1) (ht : TN 32 w1 (fun g=>w0.heap.size ≤ g) k t n p (.slice a' ks.len c') ks) (hB : f.len ≤ 90000)
    (hs : ac.eval sv = .slice a f.len c) (hx : ac.eval x = .slice (some ⟨w1.heap.size,0,none⟩) 1 1)
    (hK : ∀ g cc w2,Rr b m T s W w2 (some ⟨g,0,none⟩) cc (f.app (one k t n p ks)) → wpList Tryz.prog ops Q rest (ac.put o.dst (.slice (some ⟨g,0,none⟩) (f.app (one k t n p ks)).len cc)) w2) :
    wpList Tryz.prog ops Q (o :: rest) ac (w1.alloc (.cells #[.int .i64 k,.string ⟨t.toArray⟩,.int .i64 n,.int .i64 p,.slice a' ks.len c'] 32)):=by
  have h1:=(h.go hT).below ((Below.refl _ w1).alloc (Nat.le_refl _) (.cells #[.int .i64 k,.string ⟨t.toArray⟩,.int .i64 n,.int .i64 p,.slice a' ks.len c'] 32))
  have hW:=h.tr.ky.size
  have hsz:=hT.ky.size
  have hlt : ∀ g,Value.ownBlock (.slice a f.len c) = some g → g < w0.heap.size:=fun g e=>by
    obtain ⟨xs,hown,_,_⟩:=h.kl.out
    exact (hown.lt g e).2
  refine app_kl (n:=one k t n p ks) (ad:=⟨w1.heap.size,0,none⟩) (news:=[.int .i64 k,.string ⟨t.toArray⟩,.int .i64 n,.int .i64 p,.slice a' ks.len c']) hgd sv x ho h1.kl (fun x hx=>by simp at hx;show W.heap.size ≤ x;omega) (by show f.len + 1 ≤ _;omega) (by show 0 < 1;omega) ?_ hs hx (World.news_of_block (cs:=#[.int .i64 k,.string ⟨t.toArray⟩,.int .i64 n,.int .i64 p,.slice a' ks.len c']) (t:=32) (fr:=(0,0)) (Go.heap_alloc_new w1 _)) ?_
  · refine ((ht.kf.mono (Q:=fun g=>w0.heap.size ≤ g ∧ g < w1.heap.size) fun g x y=>⟨x,y⟩).keep (w':=w1.alloc _) fun g hg _=>(World.grownBy_alloc w1 _ none).block g hg.2 (by simp)).mono fun g hg _=>⟨by show W.heap.size ≤ g;omega,fun e=>?_⟩
    have:=hlt g e.symm
    omega
  · intro g cc w2 hkl hky hat
    refine hK g cc w2 ⟨Tr.onto h1.tr hky (fun x hx=>?_) h.lt.2,hkl,h.lt⟩
    obtain ⟨xs,_,hP,_⟩:=h1.kl.out
    exact hP x hx.symm
theorem Rr.made {b m : Nat} {T : List Tok} {s : Sx} {W w1 : World} {a' : Option Addr} {c' : Nat} {ks : F} {k : Int} {t : List UInt8} {n p : Int} (hT : Tt b m T s W w1) (ht : TN 32 w1 (fun g=>W.heap.size ≤ g) k t n p (.slice a' ks.len c') ks) (hm : b < W.heap.size ∧ m ≤ W.heap.size) :
    Rr b m T s W (w1.alloc (.cells #[.int .i64 k,.string ⟨t.toArray⟩,.int .i64 n,.int .i64 p,.slice a' ks.len c'] 32)) (some ⟨w1.heap.size,0,none⟩) 1 (one k t n p ks) :=
  ⟨Tr.alloc hT _,KL.made (n:=1) (f:=one k t n p ks) ht.kf (by show W.heap.size ≤ w1.heap.size;exact hT.ky.size) rfl (by unfold maxLen;omega),hm⟩
theorem RT.lt {b m : Nat} {T : List Tok} {s : Sx} {W : World} (h : RT b m T s W) : b < W.heap.size ∧ m ≤ W.heap.size:=by have:=h.ps.lt;omega
theorem RT.sm {b m : Nat} {T : List Tok} {s : Sx} {W : World} (h : RT b m T s W) : Ends s.l ∧ s.l.length ≤ 20001:=by
  obtain ⟨i,_,_,h7⟩:=h.ps.plc
  have:=h.ps.small
  exact ⟨h.ps.ends,by omega⟩
theorem name_n (b m : Nat) (T : List Tok) (s : Sx) (q : Int) (W : World) (h : RT b m T s W) : Calls Tryz.prog 48 #[.pointer (some ⟨b,0,none⟩),.int .i64 q] W (RN b m T W (s.name T) (s.nm q)) :=
  (name_s b m T s q W h).mono fun _ w' ⟨⟨k,t,p,e1,e2⟩,hT⟩=>⟨k,t,0,p,none,0,.nil,e1,e2,TN.leaf 32 w' _ k t 0 p,hT⟩
theorem take_c (b m : Nat) (T : List Tok) (s : Sx) (c : Nat) (h1 : 1 ≤ c) (h2 : c ≤ 42) (W : World) (h : RT b m T s W) : Calls Tryz.prog 45 #[.pointer (some ⟨b,0,none⟩),.string ⟨(wds c).toArray⟩] W fun e w'=>e = .returned (.bool (decide (s.c = c))) ∧ Tt b m T (if s.c = c then s.tl else s) W w':=by
  have:=take_s b m T s (wds c) W h
  unfold Sx.tk at this
  rw [see_c s c h1 h2] at this
  by_cases hc : s.c = c
  · rw [if_pos hc];rw [decide_eq_true hc,if_pos rfl] at this;rw [decide_eq_true hc];exact this
  · rw [if_neg hc];rw [decide_eq_false hc,if_neg (by decide)] at this;rw [decide_eq_false hc];exact this
theorem take_y (b m : Nat) (T : List Tok) (s : Sx) (c : Nat) (h1 : 1 ≤ c) (h2 : c ≤ 42) (hc : s.c = c) (W : World) (h : RT b m T s W) : Calls Tryz.prog 45 #[.pointer (some ⟨b,0,none⟩),.string ⟨(wds c).toArray⟩] W fun e w'=>e = .returned (.bool true) ∧ Tt b m T s.tl W w':=by
  have:=take_c b m T s c h1 h2 W h
  rw [decide_eq_true hc,if_pos hc] at this
  exact this
theorem take_n (b m : Nat) (T : List Tok) (s : Sx) (c : Nat) (h1 : 1 ≤ c) (h2 : c ≤ 42) (hc : s.c ≠ c) (W : World) (h : RT b m T s W) : Calls Tryz.prog 45 #[.pointer (some ⟨b,0,none⟩),.string ⟨(wds c).toArray⟩] W fun e w'=>e = .returned (.bool false) ∧ Tt b m T s W w':=by
  have:=take_c b m T s c h1 h2 W h
  rw [decide_eq_false hc,if_neg hc] at this
  exact this
theorem need_n (b m : Nat) (T : List Tok) (s : Sx) (c : Nat) (h1 : 1 ≤ c) (h2 : c ≤ 42) (W : World) (h : RT b m T s W) : Calls Tryz.prog 49 #[.pointer (some ⟨b,0,none⟩),.string ⟨(wds c).toArray⟩] W fun e w'=>e = .returned (.tuple #[]) ∧ Tt b m T (s.needC T c) W w':=by
  rw [← need_c T s c h1 h2]
  exact need_s b m T s (wds c) W h
theorem see_n (b m : Nat) (T : List Tok) (s : Sx) (c : Nat) (h1 : 1 ≤ c) (h2 : c ≤ 42) (W : World) (h : RT b m T s W) : Calls Tryz.prog 46 #[.pointer (some ⟨b,0,none⟩),.string ⟨(wds c).toArray⟩] W fun e w'=>e = .returned (.bool (decide (s.c = c))) ∧ Below W.heap.size W w':=by
  rw [← see_c s c h1 h2]
  exact see_any b m T s (wds c) W h
set_option maxHeartbeats 4000000 in
theorem rnames_any (b m : Nat) (T : List Tok) (s : Sx) (g : F) (s2 : Sx) (hE : Ends T) (h2 : Nms T (s.nm 6) (s.name T) g s2) (W : World) (h : RT b m T s W) : Calls Tryz.prog 50 #[.pointer (some ⟨b,0,none⟩)] W (RL b m T W s2 g):=by
  have hlt:=RT.lt h
  obtain ⟨hes,hsm⟩:=RT.sm h
  have hne:=name_e hE hes
  have CN:=name_n b m T s 6 W h
  have H2 : Hid (Nms T (s.nm 6) (s.name T) g s2):=h2
  clear h2
  go_enter Tryz.func50,Tryz.ntmps50
  go_wp2_with (go_at_call 48;refine CN.mono ?_;rintro e w1 ⟨k,t,n,p,a1,c1,ks,e1,rfl,hTN,hT⟩)
  have hR:=Rr.made hT hTN hlt
  have H3 : Hid (Nms T (one k t n p ks) (s.name T) g s2):=by rw [← e1];exact H2.out
  clear H2 e1 CN
  go_loopg [3] 20010 (fun gf v3 wx=>∃ (f' : F) (s' : Sx) (a' : Option Addr) (c' : Nat),v3 = .slice a' f'.len c' ∧ Rr b m T s' W wx a' c' f' ∧ f'.len + s'.l.length ≤ 20010 ∧ Hid (Nms T f' s' g s2) ∧ s'.l.length < gf)
  case atStart=>exact ⟨_,s.name T,_,_,rfl,hR,by show 1 + _ ≤ _;omega,H3,by omega⟩
  case round =>
    clear hR H3 hTN hT
    obtain ⟨f',s',a',c',rfl,hR,hfw,HN,hfu⟩:=hrel
    obtain ⟨he',hs'⟩:=RT.sm hR.tr.rs
    have hn:=HN.out
    clear HN
    cases hn with
    | stop h15 =>
      have C:=take_n b m T _ 15 (by decide) (by decide) h15 wr hR.tr.rs
      rw [show wds 15 = [44] from rfl] at C
      go_wp2_with (go_at_call 45;refine C.mono ?_;rintro e w3 ⟨rfl,hT⟩)
      go_ret
      exact ⟨a',c',rfl,(hR.go hT).kl,(hR.go hT).tr⟩
    | more h15 h2 =>
      have C:=take_y b m T s' 15 (by decide) (by decide) h15 wr hR.tr.rs
      rw [show wds 15 = [44] from rfl] at C
      obtain ⟨e1,l1⟩:=Sx.tl_e he' (by rw [h15];decide)
      obtain ⟨e2,l2⟩:=name_e hE e1
      have CN:=fun W h=>name_n b m T s'.tl 6 W h
      have HN : Hid (Nms T (f'.app (s'.tl.nm 6)) (s'.tl.name T) g s2):=h2
      clear h2
      go_wp2_with (first | (go_at_call 45;refine C.mono ?_;rintro e w3 ⟨rfl,hT⟩;have hR:=hR.go hT) | (go_at_call 48;refine (CN _ hR.tr.rs).mono ?_;rintro e w1 ⟨k,t,n,p,a1,c1,ks,e3,rfl,hTN,hT1⟩) | (at_builtin;refine app_rr rfl _ _ rfl hR hT1 hTN (by omega) rfl rfl ?_;intro gg cc w2 hR2))
      rw [e3] at HN
      go_roundg ((s'.tl.name T).l.length + 1)
      case measure=>omega
      case rel=>exact ⟨_,s'.tl.name T,_,_,rfl,hR2,by rw [F.len_app];show _ + 1 + _ ≤ _;omega,HN,by omega⟩
set_option maxHeartbeats 4000000 in
theorem rlist_any (b m : Nat) (T : List Tok) (s : Sx) (f : F) (s1 : Sx) (g : F) (s2 : Sx) (h1 : CR T (.exp 1) s f s1) (h2 : Lst (CR T) f s1 g s2) (W : World) (h : RT b m T s W) : Calls Tryz.prog 47 #[.pointer (some ⟨b,0,none⟩)] W (RL b m T W s2 g):=by
  have hlt:=RT.lt h
  obtain ⟨hes,hsm⟩:=RT.sm h
  have hpz:=h1.pz
  have hl1:=hpz.len hes
  have CN : Calls Tryz.prog 72 #[.pointer (some ⟨b,0,none⟩),.int .i64 1] W (RN b m T W s1 f):=h1.cl b m W h
  have H2 : Hid (Lst (CR T) f s1 g s2):=h2
  clear h2 h1
  go_enter Tryz.func47,Tryz.ntmps47
  go_wp2_with (go_at_call 72;refine CN.mono ?_;rintro e w1 ⟨k,t,n,p,a1,c1,ks,e1,rfl,hTN,hT⟩)
  have hR:=Rr.made hT hTN hlt
  have H3 : Hid (Lst (CR T) (one k t n p ks) s1 g s2):=by rw [← e1];exact H2.out
  clear H2 e1 CN hpz
  go_loopg [3] 20010 (fun gf v3 wx=>∃ (f' : F) (s' : Sx) (a' : Option Addr) (c' : Nat),v3 = .slice a' f'.len c' ∧ Rr b m T s' W wx a' c' f' ∧ f'.len + s'.l.length ≤ 20010 ∧ Hid (Lst (CR T) f' s' g s2) ∧ s'.l.length < gf)
  case atStart=>exact ⟨_,s1,_,_,rfl,hR,by show 1 + _ ≤ _;omega,H3,by omega⟩
  case round =>
    clear hR H3 hTN hT
    obtain ⟨f',s',a',c',rfl,hR,hfw,HN,hfu⟩:=hrel
    obtain ⟨he',hs'⟩:=RT.sm hR.tr.rs
    have hn:=HN.out
    clear HN
    cases hn with
    | stop h15 =>
      have C:=take_n b m T _ 15 (by decide) (by decide) h15 wr hR.tr.rs
      rw [show wds 15 = [44] from rfl] at C
      go_wp2_with (go_at_call 45;refine C.mono ?_;rintro e w3 ⟨rfl,hT⟩)
      go_ret
      exact ⟨a',c',rfl,(hR.go hT).kl,(hR.go hT).tr⟩
    | @more _ _ f1 s3 _ _ h15 h1 h2 =>
      have C:=take_y b m T s' 15 (by decide) (by decide) h15 wr hR.tr.rs
      rw [show wds 15 = [44] from rfl] at C
      obtain ⟨e1,l1⟩:=Sx.tl_e he' (by rw [h15];decide)
      have l2:=h1.pz.len e1
      have CN : ∀ W,RT b m T s'.tl W → Calls Tryz.prog 72 #[.pointer (some ⟨b,0,none⟩),.int .i64 1] W (RN b m T W s3 f1):=fun W h=>h1.cl b m W h
      have HN : Hid (Lst (CR T) (f'.app f1) s3 g s2):=h2
      clear h2 h1
      go_wp2_with (first | (go_at_call 45;refine C.mono ?_;rintro e w3 ⟨rfl,hT⟩;have hR:=hR.go hT) | (go_at_call 72;refine (CN _ hR.tr.rs).mono ?_;rintro e w1 ⟨k,t,n,p,a1,c1,ks,e3,rfl,hTN,hT1⟩) | (at_builtin;refine app_rr rfl _ _ rfl hR hT1 hTN (by omega) rfl rfl ?_;intro gg cc w2 hR2))
      rw [e3] at HN
      go_roundg (s3.l.length + 1)
      case measure=>omega
      case rel=>exact ⟨_,s3,_,_,rfl,hR2,by rw [F.len_app];show _ + 1 + _ ≤ _;omega,HN,by omega⟩
end Go.Proofs.YtlgkfhipobdcfaaGreatDoor

/- P7 -/
import Derived.Laws.MakeOwn
import Derived.Test.YtcdnjeiamihhbaaGreatP6
set_option linter.unusedVariables false
set_option maxRecDepth 4000
open Go.Proofs.Tryz
namespace Go.Proofs.YtcdnjeiamihhbaaGreat
open Go.RowKit Go.Shelf
section
attribute [local go_sem] Oper.semAt_some
structure WrSt (w:World) (q L B1 B2:Nat) (b seq:Int) (A:Option Addr) (n C m r:Nat) (ls:List (List Int)) (k:Nat) (W:World):Prop where
 below:Below q w W
 b0:Blk W q [.int .i64 b] 3
 b1:Blk W (q+1) [.int .u64 seq,.slice A n C] 82
 b2:Blk W (q+2) [.int .i64 m] 3
 p1:Blk W B1 [.slice A n C] 77
 p2:Blk W B2 [.int .i64 r] 3
 o:∃v,Blk W L [v] 74/\RowAt (λ j=>q<=j) W v (ls.take k)
 ne:q<=L/\q=w.heap.size
section
variable {w:World} {q L B1 B2:Nat} {b seq:Int} {A:Option Addr} {n C m r:Nat} {ls:List (List Int)} {k:Nat} {W W':World}
theorem WrSt.under (h:WrSt w q L B1 B2 b seq A n C m r ls k W) (hb:Below W.heap.size W W'):WrSt w q L B1 B2 b seq A n C m r ls k W':=by
 obtain ⟨v,o1,o2⟩:=h.o;have ho:=Qab Non hb;exact ⟨h.below.trans (hb.mono (by have:=o1.lt;have:=h.ne;omega)),ho.blk h.b0 id,ho.blk h.b1 id,ho.blk h.b2 id,ho.blk h.p1 id,ho.blk h.p2 id,⟨v,ho.blk o1 id,o2.out ho (λ _ _=>id) (λ _ _ _ _=>id)⟩,h.ne⟩
theorem WrSt.calm {l:Nat} (h:WrSt w q L B1 B2 b seq A n C m r ls k W) (hc:Calm l W W') (hl:q<=l):WrSt w q L B1 B2 b seq A n C m r ls k W':=by
 obtain ⟨v,o1,o2⟩:=h.o;exact ⟨h.below.trans (hc.2.1.below (by have:=o1.lt;have:=h.ne;omega) (λ j e=>by omega)),hc.blk h.b0,hc.blk h.b1,hc.blk h.b2,hc.blk h.p1,hc.blk h.p2,⟨v,hc.blk o1,hc.row o2⟩,h.ne⟩
theorem WrSt.app {R:Loop} {l:Nat} (h:WrSt w q L B1 B2 b seq A n C m r ls k W) (hbk:Book R l W) {D:List Int} (hD:ls[k]?=some D) {v v':Value} {o:Obj} {w':World} (hr:RowAt (λ j=>q<=j) W v (ls.take k)) (hv:Blk W L [v] 74)
  (hg:(W.alloc o).grownBy w' v.ownBlock) (h2:RowAt (λ j=>q<=j) w' v' (ls.take k ++ [D])):WrSt w q L B1 B2 b seq A n C m r ls (k+1) (w'.setCell ⟨L,0,none⟩ v')/\Book R l (w'.setCell ⟨L,0,none⟩ v'):=by
 obtain ⟨vs,r1,r2,_⟩:=id hr;have g1:Blk w' L [v] 74:=(hv.alloc o).grown (by decide) (r1.alloc o) hg;have k0:Blk w' q _ _:=(h.b0.alloc o).grown (by decide) (r1.alloc o) hg;have k1:Blk w' (q+1) _ _:=(h.b1.alloc o).grown (by decide) (r1.alloc o) hg;have k2:Blk w' (q+2) _ _:=(h.b2.alloc o).grown (by decide) (r1.alloc o) hg;have k3:Blk w' B1 _ _:=(h.p1.alloc o).grown (by decide) (r1.alloc o) hg;have k4:Blk w' B2 _ _:=(h.p2.alloc o).grown (by decide) (r1.alloc o) hg;have lt:=hv.lt;have ne:=h.ne;refine ⟨⟨?_,k0.set_other (Qbq k0 g1 (by decide)) _,k1.set_other (Qbq k1 g1 (by decide)) _,k2.set_other (Qbq k2 g1 (by decide)) _,k3.set_other (Qbq k3 g1 (by decide)) _,k4.set_other (Qbq k4 g1 (by decide)) _,⟨v',g1.set 0 v',?_⟩,h.ne⟩,Qg2 (Qq3 hbk hr hg) g1 0 v'⟩
 ·exact (((h.below.alloc (by omega) o).grown hg (by simp;omega) (λ j hj=>r2 j hj)).setCell (p:=⟨L,0,none⟩) ne.1 v')
 ·rw [Qao hD]
  exact Qdh g1 (by decide) (by decide) 0 v' h2
end
theorem Q2x {b:Int} (h:b∈PowR):b % 16=0:=by
 simp only [PowR,List.mem_cons,List.not_mem_nil,or_false] at h
 omega
def Q1p (w:World) (s:Sh) (seq:Int) (ps:List Pl) (e:Ending) (w':World):Prop:=
 ∃v,e=.returned v/\RowAt (λ j=>w.heap.size<=j) w' v (ckL s seq ps)/\Below w.heap.size w w'
theorem KIn.calm {l:Nat} {W W':World} {a:Option Addr} {n:Nat} {ps:List Pl} (hc:Calm l W W') (h:KIn W a n ps):KIn W' a n ps:=h.cells (λ b o v _ hv=>hc.cell hv)
set_option maxHeartbeats 4000000 in
theorem Qpo (s:Sh) (seq:Int) (A:Option Addr) (n C:Nat) (ps:List Pl) (w:World) (hk:KIn w A n ps) (hnC:n<=C) (hseq:Qai seq) (hs:Qat s) (hf:∀p∈ps,Fit2 p) (hm:mK s ps<=4096) :
  Calls prog 84 #[.int .i64 s.b,.agg #[.int .u64 seq,.slice A n C]] w (Q1p w s seq ps):=by
 obtain ⟨q,hq⟩:∃q,q=w.heap.size:=⟨_,rfl⟩
 obtain ⟨i0,hi0,hz0,hz1,hz2⟩:=info_parts Tryz.zero_bytes;obtain ⟨r,hr⟩:∃r:Nat,Qdx s.b=r:=⟨Qbl s,by have:=Qgl hs.2.2.2.2.1;unfold Qbl;omega⟩
 obtain ⟨m,hmm⟩:∃m:Nat,m=mK s ps:=⟨_,rfl⟩
 have hrN:Qbl s=r:=by unfold Qbl;omega
 have hrb:=Qcv hs;rw [hrN] at hrb;have hn:n<=4096*254:=by
  have h1:=Qen (r:=r) (n:=ps.length) (by omega);have h2:Qd4 r ps.length=mK s ps:=by unfold mK;rw [hrN]
  have h3:Qd4 r ps.length*r<=4096*254:=Nat.mul_le_mul (by omega) (by omega);have:=hk.1;omega
 have w1:IntKind.i64.wrap ((n:Int)+r)=(n:Int)+r:=by rw [IntKind.wrap_i64];omega
 have w2:IntKind.i64.wrap ((n:Int)+r - 1)=((n+r - 1:Nat):Int):=by rw [IntKind.wrap_i64];omega
 obtain ⟨X,hX⟩:∃X:Nat,X=(n+r - 1) / r:=⟨_,rfl⟩
 have hXb:X<=n+r - 1:=by rw [hX];exact Nat.div_le_self _ _
 have w3:IntKind.i64.wrap (((n+r - 1:Nat):Int) / (r:Int))=(X:Int):=by
  rw [<-Int.natCast_ediv,<-hX,IntKind.wrap_i64];omega
 have w4:(if (1:Int)<(X:Int) then (X:Int) else 1)=(m:Int):=by
  rw [hmm];unfold mK Qd4;rw [hrN,hk.1,<-hX];split <;> omega
 clear hX hXb;have hr0:¬(r:Int)=0:=by omega
 have H:Hid (KIn w A n ps/\n<=C/\Qai seq/\Qat s/\(∀p∈ps,Fit2 p)/\q=w.heap.size/\Qdx s.b=r/\m=mK s ps/\Qbl s=r/\prog.info? 71=some i0/\i0.zero=some (.slice none 0 0)/\i0.size=1/\i0.bytes=24/\n<=4096*254/\m<=4096):=⟨hk,hnC,hseq,hs,hf,hq,hr,hmm,hrN,hi0,hz0,hz1,hz2,hn,by omega⟩
 have HR:=Jh1 hrb;clear hk hnC hseq hs hf hrb hi0 hz0 hz1 hz2 hm hmm hrN hr hn;refine (callsIn_wide (n:=5)).1 (callsIn_of_wp_marks func84 rfl trivial (wpIn_wide.2 ?_))
 simp only [ntmps84,List.size_toArray,List.length_cons,List.length_nil,Nat.reduceAdd,Nat.reduceSub,Array.replicate_succ,Array.replicate_zero,List.push_toArray,List.append_toArray,List.nil_append,List.cons_append]
 go_upto_region 3 with (go_at_call 83;refine (Qr2 _ _).mono ?_;rintro e w' ⟨rfl,hw'⟩;replace hw':=hw'.symm;subst hw';rw [(J7 H)])
 have HI:=Jh5 (J10 H) (J11 H) (J12 H) (J13 H) (Jz14 H);rw [<-hq];have e2:q+1+1=q+2:=rfl;rw [e2];have HW:Hid (Blk (((w.alloc (.cells #[.int .i64 s.b] 3)).alloc (.cells #[.int .u64 seq,.slice A n C] 82)).alloc (.cells #[.int .i64 m] 3)) q [.int .i64 s.b] 3/\Blk (((w.alloc (.cells #[.int .i64 s.b] 3)).alloc (.cells #[.int .u64 seq,.slice A n C] 82)).alloc (.cells #[.int .i64 m] 3)) (q+1) [.int .u64 seq,.slice A n C] 82/\Blk (((w.alloc (.cells #[.int .i64 s.b] 3)).alloc (.cells #[.int .u64 seq,.slice A n C] 82)).alloc (.cells #[.int .i64 m] 3)) (q+2) [.int .i64 m] 3/\Below q w (((w.alloc (.cells #[.int .i64 s.b] 3)).alloc (.cells #[.int .u64 seq,.slice A n C] 82)).alloc (.cells #[.int .i64 m] 3))/\(((w.alloc (.cells #[.int .i64 s.b] 3)).alloc (.cells #[.int .u64 seq,.slice A n C] 82)).alloc (.cells #[.int .i64 m] 3)).heap.size=q+3):=
  ⟨((Blk.new' hq.symm rfl).alloc _).alloc _,(Blk.new' (by simp [hq]) rfl).alloc _,Blk.new' (by simp [hq]) rfl,(((Below.refl q w).alloc (by omega) _).alloc (by simp [hq]) _).alloc (by simp [hq];omega) _,by simp [hq]⟩
 clear hq e2 w1 w2 w3 w4;generalize hW:World.alloc _ _=W1 at HW ⊢;clear hW;have c1:W1.cell? ⟨q+1,1,none⟩=some (.slice A n C):=(J2 HW).cell 1;have c2:W1.cell? ⟨q+2,0,none⟩=some (.int .i64 m):=(J3 HW).cell 0;have c0:W1.cell? ⟨q+1,0,none⟩=some (.int .u64 seq):=(J2 HW).cell 0;go_upto_region 4 with (at_make;refine wpList_make_own W1 rfl _ (.tmp 21) 74 rfl q 71 i0 (.slice none 0 0) 1 Tryz.underlying74 HI.out.1 (J2 HI) (J3 HI) .i64 .i64 _ m rfl rfl (by have:=(Jz4 HI);omega) (by rw [(J4 HI)];have:=(Jz4 HI);omega) (by have:=(Jz4 HI);unfold maxLen;omega) (by have:=(Jz4 HW);omega) ?_;intro w2 ow2 gr2)
 have hK3:Hid (Blk (w2.alloc (.cells #[.slice (some ⟨W1.heap.size,0,none⟩) 0 m] 74)) w2.heap.size [.slice (some ⟨W1.heap.size,0,none⟩) 0 m] 74/\w2.ownsRow q 71 1 (.slice (some ⟨W1.heap.size,0,none⟩) 0 m) 0 []/\Below W1.heap.size W1 w2):=⟨Blk.new' rfl rfl,ow2,(Below.refl _ _).grown gr2 (Nat.le_refl _) (λ g hg=>by cases hg)⟩
 clear ow2 gr2;obtain ⟨Lb,hLb⟩:∃Lb,Lb=w2.heap.size:=⟨_,rfl⟩
 obtain ⟨v0,hv0⟩:∃v0,v0=Value.slice (some ⟨W1.heap.size,0,none⟩) 0 m:=⟨_,rfl⟩
 have H3:Hid (Blk (w2.alloc (.cells #[v0] 74)) Lb [v0] 74/\RowAt (λ j=>q<=j) (w2.alloc (.cells #[v0] 74)) v0 []/\Below W1.heap.size W1 (w2.alloc (.cells #[v0] 74))/\(w2.alloc (.cells #[v0] 74)).heap.size=Lb+1/\q+3<=Lb):=by
  rw [hLb,hv0];obtain ⟨h1,h2,h3⟩:=hK3.out;refine ⟨h1,⟨[],Qbh (h2.alloc _),λ r e=>(h2.lt r e).1,BsAt.nil _ _,by simp⟩,h3.alloc h3.size _,by simp,?_⟩
  have:=h3.size;rw [(Jz4 HW)] at this;exact this
 rw [<-hLb,<-hv0];clear hK3 hLb hv0;generalize hW3:World.alloc w2 _=W3 at H3 ⊢;have d1:W3.cell? ⟨q+1,1,none⟩=some (.slice A n C):=((J2 HW).below (J3 H3) (J2 HW).lt).cell 1;clear c0 c1 c2 hW3;obtain ⟨B1,hB1⟩:∃B1,B1=Lb+1:=⟨_,rfl⟩
 have hsz3:W3.heap.size=B1:=by rw [hB1];exact (J4 H3)
 have HB1:=Jh1 hB1;clear hB1;go_wp2_with (go_at_call 143;refine (Qv1 A n C r _).mono ?_;rintro e W4 ⟨rfl,hw4⟩;replace hw4:=hw4.symm;subst hw4)
 obtain ⟨ls,hls⟩:∃ls,ls=ckL s seq ps:=⟨_,rfl⟩
 have HV:Hid (WrSt w q Lb B1 (B1+1) s.b seq A n C m r ls 0 ((W3.alloc (.cells #[.slice A n C] 77)).alloc (.cells #[.int .i64 r] 3))):=by
  obtain ⟨h1,h2,h3,h4,h5⟩:=H3.out;have hb:=(J4 HW).trans (h3.mono (by have:=(Jz4 HW);omega));have hqL:q<=Lb:=by omega
  refine ⟨(hb.alloc (by omega) _).alloc (by simp;omega) _,(((HW.out.1.below h3 HW.out.1.lt).alloc _).alloc _),((((J2 HW).below h3 (J2 HW).lt).alloc _).alloc _),((((J3 HW).below h3 (J3 HW).lt).alloc _).alloc _),(Blk.new' hsz3 rfl).alloc _,Blk.new' (by simp [hsz3]) rfl,⟨v0,(h1.alloc _).alloc _,?_⟩,hqL,(J6 H)⟩
  have:=h2.out (Qab Non (((Below.refl W3.heap.size W3).alloc (Nat.le_refl _) (.cells #[.slice A n C] 77)).alloc (by simp) (.cells #[.int .i64 r] 3))) (λ _ _=>id) (λ _ _ _ _=>id);simpa using this
 have hsz4:((W3.alloc (.cells #[.slice A n C] 77)).alloc (.cells #[.int .i64 r] 3)).heap.size=B1+2:=by simp [hsz3]
 generalize hW4:World.alloc _ _=W4 at HV hsz4 ⊢;have HQ:Hid (q<=B1/\ls=ckL s seq ps):=⟨by have:=(Jz4 H3);have:=HB1.out;omega,hls⟩
 clear hW4 d1 hsz3 hls;refine wpIn_wide.1 (Qg7 (n:=5) (gf:=210) (lb:=#[.pointer (some ⟨B1,0,none⟩),.pointer (some ⟨B1+1,0,none⟩)]) rfl (enters_of func210 (by kernel_rfl) rfl)
  (WrSt w q Lb B1 (B1+1) s.b seq A n C m r ls)
  (λ k x W=>WrSt w q Lb B1 (B1+1) s.b seq A n C m r ls k W/\k<m/\∃A' n' C',x=.slice A' n' C'/\KIn W A' n' (Qb7 r k ps))
  (λ W=>WrSt w q Lb B1 (B1+1) s.b seq A n C m r ls m W)
  (λ k W W' h hc=>h.calm hc (by have:=HQ.out.1;omega)) (λ k x W W' h hc=>⟨h.1.calm hc (by have:=HQ.out.1;omega),h.2.1,by obtain ⟨A',n',C',h1,h2⟩:=h.2.2;exact ⟨A',n',C',h1,KIn.calm hc h2⟩⟩) (λ W W' h hc=>h.calm hc (by have:=HQ.out.1;omega))
  (λ o o'=>HV.out.under (((Below.refl _ _).alloc (Nat.le_refl _) _).alloc (by simp) _))
  (λ x=>{tmps:=#[.int .i64 s.b,.agg #[.int .u64 seq,.slice A n C],.pointer (some ⟨q,0,none⟩),.pointer (some ⟨q+1,0,none⟩),.slice none 0 0,.int .i64 r,.pointer (some ⟨q+2,0,none⟩),.pointer (some ⟨Lb,0,none⟩),x,undef,.int .i64 s.b,.int .i64 r,.pointer (some ⟨q+1,1,none⟩),.slice A n C,.int .i64 n,.int .i64 r,.int .i64 ((n:Int)+r),.int .i64 ((n+r - 1:Nat):Int),.int .i64 r,.int .i64 X,.int .i64 m,.int .i64 m,v0,.pointer (some ⟨q+1,1,none⟩),.slice A n C,.int .i64 r,.func (.func 210) #[] #[.pointer (some ⟨B1,0,none⟩),.pointer (some ⟨B1+1,0,none⟩)],x,undef,undef,undef,undef,undef,undef,undef,undef,undef,undef,undef,undef,undef,undef,undef,undef,undef,undef,undef,undef,undef],defers:=[]}) ?assign ?body ?iter ?done)
 case assign=>
  rintro l k x W K ⟨_,_,A',n',C',rfl,_⟩ hK;gi_wp2
  exact hK
 case body=>
  rintro l R k x W hbk ⟨hst,hkm,A',n',C',rfl,hkin⟩;obtain ⟨v,o1,o2⟩:=hst.o;have hlsl:ls.length=m:=by rw [HQ.out.2,Qbt];exact (J8 H).symm
  have htl:(ls.take k).length=k:=by rw [List.length_take];omega
  obtain ⟨av,cv,hv⟩:=o2.slice;rw [htl] at hv;subst hv;have hnr:n'<=r:=by rw [<-hkin.1];exact Qby _ _ _
  have hm4:=(Jz14 H)
  have hrb:=HR.out;have c0:W.cell? ⟨q+1,0,none⟩=some (.int .u64 seq):=hst.b1.cell 0;have c2:W.cell? ⟨q+2,0,none⟩=some (.int .i64 m):=hst.b2.cell 0;have c3:W.cell? ⟨Lb,0,none⟩=some (.slice av k cv):=o1.cell 0;have u1:IntKind.u64.wrap (k:Int)=k:=by rw [IntKind.wrap_u64];omega
  have u2:IntKind.u64.wrap (m:Int)=m:=by rw [IntKind.wrap_u64];omega
  have u3:IntKind.u64.wrap (n':Int)=n':=by rw [IntKind.wrap_u64];omega
  have g0:∀o,(W.alloc o).cell? ⟨q+1,0,none⟩=some (.int .u64 seq):=λ o=>(hst.b1.alloc o).cell 0
  have g2:∀o,(W.alloc o).cell? ⟨q+2,0,none⟩=some (.int .i64 m):=λ o=>(hst.b2.alloc o).cell 0
  have g3:∀o,(W.alloc o).cell? ⟨Lb,0,none⟩=some (.slice av k cv):=λ o=>(o1.alloc o).cell 0
  have i0:∀o p,((W.alloc o).alloc p).cell? ⟨q+1,0,none⟩=some (.int .u64 seq):=λ o p=>((hst.b1.alloc o).alloc p).cell 0
  have i2:∀o p,((W.alloc o).alloc p).cell? ⟨q+2,0,none⟩=some (.int .i64 m):=λ o p=>((hst.b2.alloc o).alloc p).cell 0
  have i3:∀o p,((W.alloc o).alloc p).cell? ⟨Lb,0,none⟩=some (.slice av k cv):=λ o p=>((o1.alloc o).alloc p).cell 0
  have HL:Hid (∀(X:World) (g:Nat),X.heap.size=g->NIn .u64 (X.alloc (.cells #[.int .u64 1129009236,.int .u64 0,.int .u64 k,.int .u64 m,.int .u64 seq,.int .u64 n'] 45)) (some ⟨g,0,none⟩) 6 (hkV k m seq n')):=Q09 (by unfold Qai;omega) (by unfold Qai;omega) (J3 H) (by unfold Qai;omega);have HS:=Jh7 hst hbk hkm hkin o1 o2 hnr;clear hst hbk hkm hkin o1 o2 hnr hm4 hrb hlsl htl;have hmix:prog.follows .mixedOrders=true:=by kernel_rfl
  have hfw:∀f,Fence.wide.fn f=True:=λ _=>rfl
  have hdw:Fence.wide.depth.isSome=false:=rfl;gi_wp2
  refine wpIn_mono (Q:=λ e a' U=>e=.normal/\∃(u28 u39:Value) (a8:Option Addr) (c8:Nat),a'={tmps:=#[.int .i64 s.b,.agg #[.int .u64 seq,.slice A n C],.pointer (some ⟨q,0,none⟩),.pointer (some ⟨q+1,0,none⟩),.slice none 0 0,.int .i64 r,.pointer (some ⟨q+2,0,none⟩),.pointer (some ⟨Lb,0,none⟩),.slice A' n' C',.slice a8 26 c8,.int .i64 s.b,.int .i64 r,.pointer (some ⟨q+1,1,none⟩),.slice A n C,.int .i64 n,.int .i64 r,.int .i64 ((n:Int)+r),.int .i64 ((n+r - 1:Nat):Int),.int .i64 r,.int .i64 X,.int .i64 m,.int .i64 m,v0,.pointer (some ⟨q+1,1,none⟩),.slice A n C,.int .i64 r,.func (.func 210) #[] #[.pointer (some ⟨B1,0,none⟩),.pointer (some ⟨B1+1,0,none⟩)],.slice A' n' C',u28,.slice av k cv,.int .i64 k,.int .u64 k,.int .i64 m,.int .u64 m,.pointer (some ⟨q+1,0,none⟩),.int .u64 seq,.slice A' n' C',.int .i64 n',.int .u64 n',u39,.slice a8 26 c8,undef,undef,undef,undef,undef,undef,undef,undef],defers:=[]}/\U.ownsRow W.heap.size 5 1 (.slice a8 26 c8) 26 (u8s (hkB k m seq n'))/\Below W.heap.size W U) ?r6 ?c6
  case r6=>
   refine Qhz (S:=λ Y=>Y.cell? ⟨Lb,0,none⟩=some (.slice av k cv)/\Y.cell? ⟨q+2,0,none⟩=some (.int .i64 m)/\Y.cell? ⟨q+1,0,none⟩=some (.int .u64 seq)) hmix (by rintro ⟨_,_,h,_⟩;cases h) (by kernel_rfl) (by exact ⟨c3,c2,c0⟩) (λ hS=>?_)
   refine wpAnyH_take (i:=1) (oi:={dst:=some 29,op:=Op.load 74 (Operand.tmp 7),type:=74,pos:="ckpt.go:153",after:=#[],guard:=none}) (v:=.slice av k cv) rfl (by kernel_rfl) (by kernel_rfl) (by kernel_rfl) (λ _ _ _ h=>by cases h.1) (Or.inl ⟨by rfl,λ Y hY=>by (try dsimp only at hY);go_simp⟩) hS ?_
   simp only [Act.put,List.setIfInBounds_toArray,List.set_cons_zero,List.set_cons_succ]
   refine wpAnyH_take (i:=2) (oi:={dst:=some 30,op:=Op.call {callee:=Callee.builtin Builtin.len,args:=#[Operand.tmp 29],argTypes:=#[74]},type:=3,pos:="ckpt.go:153",after:=#[{on:=1,ground:=Ground.data}],guard:=none}) (v:=.int .i64 k) rfl (by kernel_rfl) (by kernel_rfl) (by kernel_rfl) (λ _ _ _ h=>by cases h.1) (Or.inl ⟨by rfl,λ Y hY=>by (try dsimp only at hY);go_simp⟩) hS ?_
   simp only [Act.put,List.setIfInBounds_toArray,List.set_cons_zero,List.set_cons_succ]
   refine wpAnyH_take (i:=3) (oi:={dst:=some 31,op:=Op.convert 3 45 (Operand.tmp 30),type:=45,pos:="ckpt.go:153",after:=#[{on:=2,ground:=Ground.data}],guard:=none}) (v:=.int .u64 k) rfl (by kernel_rfl) (by kernel_rfl) (by kernel_rfl) (λ _ _ _ h=>by cases h.1) (Or.inl ⟨by rfl,λ Y hY=>by (try dsimp only at hY);go_simp⟩) hS ?_
   simp only [Act.put,List.setIfInBounds_toArray,List.set_cons_zero,List.set_cons_succ]
   refine wpAnyH_take (i:=4) (oi:={dst:=some 32,op:=Op.load 3 (Operand.tmp 6),type:=3,pos:="ckpt.go:153",after:=#[],guard:=none}) (v:=.int .i64 m) rfl (by kernel_rfl) (by kernel_rfl) (by kernel_rfl) (λ _ _ _ h=>by cases h.1) (Or.inl ⟨by rfl,λ Y hY=>by (try dsimp only at hY);go_simp⟩) hS ?_
   simp only [Act.put,List.setIfInBounds_toArray,List.set_cons_zero,List.set_cons_succ]
   refine wpAnyH_take (i:=5) (oi:={dst:=some 33,op:=Op.convert 3 45 (Operand.tmp 32),type:=45,pos:="ckpt.go:153",after:=#[{on:=4,ground:=Ground.data}],guard:=none}) (v:=.int .u64 m) rfl (by kernel_rfl) (by kernel_rfl) (by kernel_rfl) (λ _ _ _ h=>by cases h.1) (Or.inl ⟨by rfl,λ Y hY=>by (try dsimp only at hY);go_simp⟩) hS ?_
   simp only [Act.put,List.setIfInBounds_toArray,List.set_cons_zero,List.set_cons_succ]
   refine wpAnyH_take (i:=6) (oi:={dst:=some 34,op:=Op.fieldAddr 82 (Operand.tmp 3) 0,type:=0,pos:="ckpt.go:153",after:=#[],guard:=none}) (v:=.pointer (some ⟨q+1,0,none⟩)) rfl (by kernel_rfl) (by kernel_rfl) (by kernel_rfl) (λ _ _ _ h=>by cases h.1) (Or.inl ⟨by rfl,λ Y hY=>by (try dsimp only at hY);go_simp⟩) hS ?_
   simp only [Act.put,List.setIfInBounds_toArray,List.set_cons_zero,List.set_cons_succ]
   refine wpAnyH_take (i:=7) (oi:={dst:=some 35,op:=Op.load 45 (Operand.tmp 34),type:=45,pos:="ckpt.go:153",after:=#[{on:=6,ground:=Ground.data}],guard:=none}) (v:=.int .u64 seq) rfl (by kernel_rfl) (by kernel_rfl) (by kernel_rfl) (λ _ _ _ h=>by cases h.1) (Or.inl ⟨by rfl,λ Y hY=>by (try dsimp only at hY);go_simp⟩) hS ?_
   simp only [Act.put,List.setIfInBounds_toArray,List.set_cons_zero,List.set_cons_succ]
   refine wpAnyH_take (i:=8) (oi:={dst:=some 36,op:=Op.move (Operand.tmp 8),type:=77,pos:="ckpt.go:153",after:=#[],guard:=none}) (v:=.slice A' n' C') rfl (by kernel_rfl) (by kernel_rfl) (by kernel_rfl) (λ _ _ _ h=>by cases h.1) (Or.inl ⟨by rfl,λ Y hY=>by (try dsimp only at hY);go_simp⟩) hS ?_
   simp only [Act.put,List.setIfInBounds_toArray,List.set_cons_zero,List.set_cons_succ]
   refine wpAnyH_take (i:=9) (oi:={dst:=some 37,op:=Op.call {callee:=Callee.builtin Builtin.len,args:=#[Operand.tmp 36],argTypes:=#[77]},type:=3,pos:="ckpt.go:153",after:=#[{on:=8,ground:=Ground.data}],guard:=none}) (v:=.int .i64 n') rfl (by kernel_rfl) (by kernel_rfl) (by kernel_rfl) (λ _ _ _ h=>by cases h.1) (Or.inl ⟨by rfl,λ Y hY=>by (try dsimp only at hY);go_simp⟩) hS ?_
   simp only [Act.put,List.setIfInBounds_toArray,List.set_cons_zero,List.set_cons_succ]
   refine wpAnyH_take (i:=10) (oi:={dst:=some 38,op:=Op.convert 3 45 (Operand.tmp 37),type:=45,pos:="ckpt.go:153",after:=#[{on:=9,ground:=Ground.data}],guard:=none}) (v:=.int .u64 n') rfl (by kernel_rfl) (by kernel_rfl) (by kernel_rfl) (λ _ _ _ h=>by cases h.1) (Or.inl ⟨by rfl,λ Y hY=>by (try dsimp only at hY);go_simp⟩) hS ?_
   simp only [Act.put,List.setIfInBounds_toArray,List.set_cons_zero,List.set_cons_succ]
   refine wpAnyH_ready (rs:=[0,11]) (by kernel_rfl) (by simp) (AllReadyH.cons (o:={dst:=some 28,op:=Op.call {callee:=Callee.value (Operand.func 145),args:=#[],argTypes:=#[]},type:=103,pos:="ckpt.go:153",after:=#[],guard:=none}) rfl (λ KK hK=>?ga) (AllReadyH.cons (o:={dst:=some 39,op:=Op.buildSlice 46 6 #[(0,Operand.const (Value.int IntKind.u64 1129009236)),(1,Operand.const (Value.int IntKind.u64 0)),(2,Operand.tmp 31),(3,Operand.tmp 33),(4,Operand.tmp 35),(5,Operand.tmp 38)],type:=46,pos:="ckpt.go:153",after:=#[{on:=3,ground:=Ground.data},{on:=5,ground:=Ground.data},{on:=7,ground:=Ground.data},{on:=10,ground:=Ground.data}],guard:=none}) rfl (λ KK hK=>?gb) AllReadyH.nil))
   case ga=>
    go_simp
    refine (Qlm _).mono ?_;rintro e V1 ⟨rfl,rfl⟩
    refine hK.out _ _ (by exact ⟨g3 _,g2 _,g0 _⟩) (λ hS1=>?_)
    clear hK KK;try simp only [Act.put,List.setIfInBounds_toArray,List.set_cons_zero,List.set_cons_succ]
    refine wpAnyH_ready (rs:=[11]) (by kernel_rfl) (by simp) (AllReadyH.cons (o:={dst:=some 39,op:=Op.buildSlice 46 6 #[(0,Operand.const (Value.int IntKind.u64 1129009236)),(1,Operand.const (Value.int IntKind.u64 0)),(2,Operand.tmp 31),(3,Operand.tmp 33),(4,Operand.tmp 35),(5,Operand.tmp 38)],type:=46,pos:="ckpt.go:153",after:=#[{on:=3,ground:=Ground.data},{on:=5,ground:=Ground.data},{on:=7,ground:=Ground.data},{on:=10,ground:=Ground.data}],guard:=none}) rfl (λ KK hK=>?_) AllReadyH.nil)
    go_simp
    refine hK.out _ _ (by exact ⟨i3 _ _,i2 _ _,i0 _ _⟩) (λ hS2=>?_)
    clear hK KK;try simp only [Act.put,List.setIfInBounds_toArray,List.set_cons_zero,List.set_cons_succ]
    refine wpAnyH_ready (rs:=[12]) (by kernel_rfl) (by simp) (AllReadyH.cons (o:={dst:=some 40,op:=Op.call {callee:=Callee.value (Operand.func 144),args:=#[Operand.tmp 28,Operand.tmp 39],argTypes:=#[103,46]},type:=71,pos:="ckpt.go:153",after:=#[{on:=0,ground:=Ground.data},{on:=11,ground:=Ground.data},{on:=0,ground:=Ground.chain}],guard:=none}) rfl (λ KK hK=>?_) AllReadyH.nil)
    go_simp
    refine (Qjl (ws:=hkW) (vs:=hkV k m seq n') rfl (by first | exact (Qjt rfl).alloc _ | exact Qjt (by simp)) (by first | exact HL.out _ _ (by simp) | exact (HL.out _ _ rfl).alloc _) (by omega) (by omega)).mono ?_
    rintro e V2 ⟨a8,k8,c8,rfl,h8,o8,b8⟩;obtain rfl:k8=26:=h8.trans (Qfk _ _ _ _);clear h8;refine hK.out _ _ (by exact ⟨((J5 HS).below b8 (J5 HS).lt).cell 0,(HS.out.1.b2.below b8 HS.out.1.b2.lt).cell 0,(HS.out.1.b1.below b8 HS.out.1.b1.lt).cell 0⟩) (λ hS3=>?_)
    clear hK KK;try simp only [Act.put,List.setIfInBounds_toArray,List.set_cons_zero,List.set_cons_succ]
    refine wpAnyH_take (i:=13) (oi:={dst:=some 9,op:=Op.assign (Operand.tmp 40),type:=71,pos:="ckpt.go:153",after:=#[{on:=12,ground:=Ground.data},{on:=12,ground:=Ground.chain},{on:=0,ground:=Ground.phase},{on:=1,ground:=Ground.phase},{on:=2,ground:=Ground.phase},{on:=3,ground:=Ground.phase},{on:=4,ground:=Ground.phase},{on:=5,ground:=Ground.phase},{on:=6,ground:=Ground.phase},{on:=7,ground:=Ground.phase},{on:=8,ground:=Ground.phase},{on:=9,ground:=Ground.phase},{on:=10,ground:=Ground.phase},{on:=11,ground:=Ground.phase},{on:=12,ground:=Ground.phase}],guard:=none}) (v:=.slice a8 26 c8) rfl (by kernel_rfl) (by kernel_rfl) (by kernel_rfl) (λ _ _ _ h=>by cases h.1) (Or.inl ⟨by rfl,λ Y hY=>by (try dsimp only at hY);go_simp⟩) hS3 ?_
    simp only [Act.put,List.setIfInBounds_toArray,List.set_cons_zero,List.set_cons_succ]
    refine wpAnyH_done (by kernel_rfl) ?_ _
    exact ⟨rfl,_,_,a8,c8,rfl,o8,b8⟩
   case gb=>
    go_simp
    refine hK.out _ _ (by exact ⟨g3 _,g2 _,g0 _⟩) (λ hS1=>?_)
    clear hK KK;try simp only [Act.put,List.setIfInBounds_toArray,List.set_cons_zero,List.set_cons_succ]
    refine wpAnyH_ready (rs:=[0]) (by kernel_rfl) (by simp) (AllReadyH.cons (o:={dst:=some 28,op:=Op.call {callee:=Callee.value (Operand.func 145),args:=#[],argTypes:=#[]},type:=103,pos:="ckpt.go:153",after:=#[],guard:=none}) rfl (λ KK hK=>?_) AllReadyH.nil)
    go_simp
    refine (Qlm _).mono ?_;rintro e V1 ⟨rfl,rfl⟩
    refine hK.out _ _ (by exact ⟨i3 _ _,i2 _ _,i0 _ _⟩) (λ hS2=>?_)
    clear hK KK;try simp only [Act.put,List.setIfInBounds_toArray,List.set_cons_zero,List.set_cons_succ]
    refine wpAnyH_ready (rs:=[12]) (by kernel_rfl) (by simp) (AllReadyH.cons (o:={dst:=some 40,op:=Op.call {callee:=Callee.value (Operand.func 144),args:=#[Operand.tmp 28,Operand.tmp 39],argTypes:=#[103,46]},type:=71,pos:="ckpt.go:153",after:=#[{on:=0,ground:=Ground.data},{on:=11,ground:=Ground.data},{on:=0,ground:=Ground.chain}],guard:=none}) rfl (λ KK hK=>?_) AllReadyH.nil)
    go_simp
    refine (Qjl (ws:=hkW) (vs:=hkV k m seq n') rfl (by first | exact (Qjt rfl).alloc _ | exact Qjt (by simp)) (by first | exact HL.out _ _ (by simp) | exact (HL.out _ _ rfl).alloc _) (by omega) (by omega)).mono ?_
    rintro e V2 ⟨a8,k8,c8,rfl,h8,o8,b8⟩;obtain rfl:k8=26:=h8.trans (Qfk _ _ _ _);clear h8;refine hK.out _ _ (by exact ⟨((J5 HS).below b8 (J5 HS).lt).cell 0,(HS.out.1.b2.below b8 HS.out.1.b2.lt).cell 0,(HS.out.1.b1.below b8 HS.out.1.b1.lt).cell 0⟩) (λ hS3=>?_)
    clear hK KK;try simp only [Act.put,List.setIfInBounds_toArray,List.set_cons_zero,List.set_cons_succ]
    refine wpAnyH_take (i:=13) (oi:={dst:=some 9,op:=Op.assign (Operand.tmp 40),type:=71,pos:="ckpt.go:153",after:=#[{on:=12,ground:=Ground.data},{on:=12,ground:=Ground.chain},{on:=0,ground:=Ground.phase},{on:=1,ground:=Ground.phase},{on:=2,ground:=Ground.phase},{on:=3,ground:=Ground.phase},{on:=4,ground:=Ground.phase},{on:=5,ground:=Ground.phase},{on:=6,ground:=Ground.phase},{on:=7,ground:=Ground.phase},{on:=8,ground:=Ground.phase},{on:=9,ground:=Ground.phase},{on:=10,ground:=Ground.phase},{on:=11,ground:=Ground.phase},{on:=12,ground:=Ground.phase}],guard:=none}) (v:=.slice a8 26 c8) rfl (by kernel_rfl) (by kernel_rfl) (by kernel_rfl) (λ _ _ _ h=>by cases h.1) (Or.inl ⟨by rfl,λ Y hY=>by (try dsimp only at hY);go_simp⟩) hS3 ?_
    simp only [Act.put,List.setIfInBounds_toArray,List.set_cons_zero,List.set_cons_succ]
    refine wpAnyH_done (by kernel_rfl) ?_ _
    exact ⟨rfl,_,_,a8,c8,rfl,o8,b8⟩
  rintro e a' U ⟨rfl,u28,u39,a8,c8,rfl,o8,b8⟩;clear c0 c2 c3 u1 u2 u3 g0 g2 g3 i0 i2 i3 HL;obtain ⟨N,hN⟩:∃N:Nat,s.b=N:=⟨s.b.toNat,by have:=Qar (show s.b∈PowR from (J4 H).2.2.2.2.1);omega⟩
  have hNN:N=s.b.toNat:=by omega
  have hstU:=HS.out.1.under b8;have e0:U.cell? ⟨q,0,none⟩=some (.int .i64 s.b):=hstU.b0.cell 0;have lbU:=(J5 HS).below b8 (J5 HS).lt;have e3:U.cell? ⟨Lb,0,none⟩=some (.slice av k cv):=lbU.cell 0;have HC:Hid (Calls prog 146 #[.int .i64 s.b,.slice a8 26 c8,.slice A' n' C'] U.drew λ e Z=>∃gx Cx,e=.returned (.slice (some ⟨gx,0,none⟩) N Cx)/\Below U.heap.size U Z/\Z.cell? ⟨q,0,none⟩=some (.int .i64 s.b)/\(∀o,(Z.alloc o).cell? ⟨q,0,none⟩=some (.int .i64 s.b))/\Z.cell? ⟨Lb,0,none⟩=some (.slice av k cv)/\(∀o,(Z.alloc o).cell? ⟨Lb,0,none⟩=some (.slice av k cv))/\∃a9 c9 w9,(Builtin.append_ #[74,74] 74 #[.slice av k cv,.slice (some ⟨Z.heap.size,0,none⟩) 1 1]).run prog (Z.alloc (.cells #[.slice (some ⟨gx,0,none⟩) N Cx] 71))=.ok (.slice a9 (k+1) c9) w9/\w9.cell? ⟨Lb,0,none⟩=some (.slice av k cv)/\w9.frozen? ⟨Lb,0,none⟩=false/\w9.cell? ⟨q,0,none⟩=some (.int .i64 s.b)/\(w9.setCell ⟨Lb,0,none⟩ (.slice a9 (k+1) c9)).cell? ⟨q,0,none⟩=some (.int .i64 s.b)/\Book R W4.heap.size (w9.setCell ⟨Lb,0,none⟩ (.slice a9 (k+1) c9))/\WrSt w q Lb B1 (B1+1) s.b seq A n C m r ls (k+1) (w9.setCell ⟨Lb,0,none⟩ (.slice a9 (k+1) c9))):=by
   rw [hN];have hrb:=HR.out;have hpb:=Qar (show s.b∈PowR from (J4 H).2.2.2.2.1);have hroom:28+16*r<=N:=by
    have h1:=(J7 H)
    have h2:s.b∈PowR:=(J4 H).2.2.2.2.1;unfold Qdx at h1;rw [if_pos h2] at h1;have h3:=Q2x h2;omega
   have hkU:=((J4 HS).below b8).drew;have hbU:BIn U.drew a8 26 (hkB k m seq n'):=(Qcf o8 (by unfold maxLen;omega) (Qrn _ _ _ _)).below (Below.refl _ _).drew;refine (Qr9 N a8 c8 (hkB k m seq n') A' n' C' (Qb7 r k ps) U.drew hbU (Qhj o8) hkU (λ p hp=>(J5 H) p (Qqd hp)) (by have:=(Jz6 HS);omega) (by omega)).mono ?_
   rintro e Z ⟨gx,Cx,rfl,oZ,bZ⟩;have bZ':Below U.heap.size U Z:=(Below.refl _ _).drew.trans bZ;have hstZ:=hstU.under bZ';have lbZ:=lbU.below bZ' lbU.lt;have hbkZ:=((J2 HS).below b8).below bZ';have hn':n'=(Qb7 r k ps).length:=(J4 HS).1.symm;have hD:ls[k]?=some (ckB N k m seq (Qb7 r k ps)):=by
    have h1:=Qu3 (s:=s) (seq:=seq) (ps:=ps) (i:=k) (by rw [<-(J8 H)];exact (J3 HS));rw [(J9 H),<-(J8 H),<-hNN] at h1;rw [HQ.out.2];exact h1
   have hcell:Qek (hkB k m seq n' ++ plsB (Qb7 r k ps) ++ List.replicate (N - 1 - (26+16*n')) 0 ++ [231])=ckB N k m seq (Qb7 r k ps):=by
    rw [hn'];rfl
   rw [hcell] at oZ;have hDl:(ckB N k m seq (Qb7 r k ps)).length=N:=Qd3 (by have:=(Jz6 HS);rw [<-hn'];omega);have hsz:q<=U.heap.size:=by have:=lbU.lt;have:=hstU.ne.1;omega
   have hbk:BkAt (λ j=>q<=j) Z (.slice (some ⟨gx,0,none⟩) N Cx) (ckB N k m seq (Qb7 r k ps)):=⟨by rw [hDl];exact Qbh oZ,λ c hc=>Nat.le_trans hsz (oZ.lt c hc).1,Qpx,by rw [hDl];omega⟩
   have rowZ:RowAt (λ j=>q<=j) Z (.slice av k cv) (ls.take k):=((J6 HS).out (Qab Non b8) (λ _ _=>id) (λ _ _ _ _=>id)).out (Qab Non bZ') (λ _ _=>id) (λ _ _ _ _=>id);have htl:(ls.take k).length=k:=by rw [List.length_take,HQ.out.2,Qbt,<-(J8 H)];have:=(J3 HS);omega
   have hm4:=(Jz14 H)
   obtain ⟨a9,c9,w9,e9,r9,g9,_⟩:=Qep rowZ hbk rfl (by rw [htl];have:=(J3 HS);omega) (λ j hj=>by have:=bZ'.size;omega);rw [htl] at e9 r9;obtain ⟨vs,hvs⟩:∃vs,Z.ownsRow 0 71 1 (.slice av k cv) (ls.take k).length vs:=by obtain ⟨vs,h,_⟩:=rowZ;exact ⟨vs,h⟩
   have lb9:Blk w9 Lb [.slice av k cv] 74:=(lbZ.alloc _).grown (by decide) (hvs.alloc _) g9;have q9:Blk w9 q [.int .i64 s.b] 3:=(hstZ.b0.alloc _).grown (by decide) (hvs.alloc _) g9;have h9:=hstZ.app hbkZ hD rowZ lbZ g9 r9;rw [<-hN];exact ⟨gx,Cx,rfl,bZ',hstZ.b0.cell 0,λ o=>(hstZ.b0.alloc o).cell 0,lbZ.cell 0,λ o=>(lbZ.alloc o).cell 0,a9,c9,w9,e9,lb9.cell 0,lb9.frozen 0,q9.cell 0,h9.1.b0.cell 0,h9.2,h9.1⟩
  clear o8 b8 hN hNN hstU lbU;gi_wp2
  refine wpIn_mono (Q:=λ e a' Z=>e=.normal/\Book R W4.heap.size Z/\WrSt w q Lb B1 (B1+1) s.b seq A n C m r ls (k+1) Z) ?r7 (by rintro e a' Z ⟨rfl,h1,h2⟩;exact ⟨rfl,h1,h2⟩)
  case r7=>
   refine Qhz (S:=λ Y=>Y.cell? ⟨q,0,none⟩=some (.int .i64 s.b)) hmix (by rintro ⟨_,_,h,_⟩;cases h) (by kernel_rfl) (by exact e0) (λ hS=>?_)
   refine wpAnyH_take (i:=1) (oi:={dst:=some 42,op:=Op.load 3 (Operand.tmp 2),type:=3,pos:="ckpt.go:154",after:=#[],guard:=none}) (v:=.int .i64 s.b) rfl (by kernel_rfl) (by kernel_rfl) (by kernel_rfl) (λ _ _ _ h=>by cases h.1) (Or.inl ⟨by rfl,λ Y hY=>by (try dsimp only at hY);go_simp⟩) hS ?_
   simp only [Act.put,List.setIfInBounds_toArray,List.set_cons_zero,List.set_cons_succ]
   refine wpAnyH_take (i:=2) (oi:={dst:=some 43,op:=Op.move (Operand.tmp 9),type:=71,pos:="ckpt.go:154",after:=#[],guard:=none}) (v:=.slice a8 26 c8) rfl (by kernel_rfl) (by kernel_rfl) (by kernel_rfl) (λ _ _ _ h=>by cases h.1) (Or.inl ⟨by rfl,λ Y hY=>by (try dsimp only at hY);go_simp⟩) hS ?_
   simp only [Act.put,List.setIfInBounds_toArray,List.set_cons_zero,List.set_cons_succ]
   refine wpAnyH_take (i:=3) (oi:={dst:=some 44,op:=Op.move (Operand.tmp 8),type:=77,pos:="ckpt.go:154",after:=#[],guard:=none}) (v:=.slice A' n' C') rfl (by kernel_rfl) (by kernel_rfl) (by kernel_rfl) (λ _ _ _ h=>by cases h.1) (Or.inl ⟨by rfl,λ Y hY=>by (try dsimp only at hY);go_simp⟩) hS ?_
   simp only [Act.put,List.setIfInBounds_toArray,List.set_cons_zero,List.set_cons_succ]
   refine wpAnyH_ready (rs:=[0,4]) (by kernel_rfl) (by simp) (AllReadyH.cons (o:={dst:=some 41,op:=Op.load 74 (Operand.tmp 7),type:=74,pos:="ckpt.go:154",after:=#[],guard:=none}) rfl (λ KK hK=>?ha) (AllReadyH.cons (o:={dst:=some 45,op:=Op.call {callee:=Callee.value (Operand.func 146),args:=#[Operand.tmp 42,Operand.tmp 43,Operand.tmp 44],argTypes:=#[3,71,77]},type:=71,pos:="ckpt.go:154",after:=#[{on:=1,ground:=Ground.data},{on:=2,ground:=Ground.data},{on:=3,ground:=Ground.data}],guard:=none}) rfl (λ KK hK=>?hb) AllReadyH.nil))
   case ha=>
    go_simp
    refine hK.out _ _ (by exact e0) (λ hS1=>?_)
    clear hK KK;try simp only [Act.put,List.setIfInBounds_toArray,List.set_cons_zero,List.set_cons_succ]
    refine wpAnyH_ready (rs:=[4]) (by kernel_rfl) (by simp) (AllReadyH.cons (o:={dst:=some 45,op:=Op.call {callee:=Callee.value (Operand.func 146),args:=#[Operand.tmp 42,Operand.tmp 43,Operand.tmp 44],argTypes:=#[3,71,77]},type:=71,pos:="ckpt.go:154",after:=#[{on:=1,ground:=Ground.data},{on:=2,ground:=Ground.data},{on:=3,ground:=Ground.data}],guard:=none}) rfl (λ KK hK=>?_) AllReadyH.nil)
    go_simp
    refine HC.out.mono ?_
    rintro e Z ⟨gx,Cx,rfl,bZ,z0,z1,z2,z3,a9,c9,w9,e9,m1,m2,m3,m4,h9⟩;refine hK.out _ _ (by exact z0) (λ hS2=>?_)
    clear hK KK;try simp only [Act.put,List.setIfInBounds_toArray,List.set_cons_zero,List.set_cons_succ]
    refine wpAnyH_ready (rs:=[5]) (by kernel_rfl) (by simp) (AllReadyH.cons (o:={dst:=some 46,op:=Op.buildSlice 74 1 #[(0,Operand.tmp 45)],type:=74,pos:="ckpt.go:154",after:=#[{on:=4,ground:=Ground.data}],guard:=none}) rfl (λ KK hK=>?_) AllReadyH.nil)
    go_simp
    refine hK.out _ _ (by exact z1 _) (λ hS3=>?_)
    clear hK KK;try simp only [Act.put,List.setIfInBounds_toArray,List.set_cons_zero,List.set_cons_succ]
    refine wpAnyH_ready (rs:=[6]) (by kernel_rfl) (by simp) (AllReadyH.cons (o:={dst:=some 47,op:=Op.call {callee:=Callee.builtin Builtin.append,args:=#[Operand.tmp 41,Operand.tmp 46],argTypes:=#[74,74]},type:=74,pos:="ckpt.go:154",after:=#[{on:=0,ground:=Ground.data},{on:=5,ground:=Ground.data},{on:=4,ground:=Ground.chain}],guard:=none}) rfl (λ KK hK=>?_) AllReadyH.nil)
    refine Qaq rfl (.tmp 41) (.tmp 46) 74 74 rfl _ _ rfl rfl _ _ e9 ?_
    refine hK.out _ _ (by exact m3) (λ hS5=>?_)
    clear hK KK;try simp only [Act.put,List.setIfInBounds_toArray,List.set_cons_zero,List.set_cons_succ]
    refine wpAnyH_ready (rs:=[7]) (by kernel_rfl) (by simp) (AllReadyH.cons (o:={dst:=none,op:=Op.store 74 (Operand.tmp 7) (Operand.tmp 47),type:=0,pos:="ckpt.go:154",after:=#[{on:=6,ground:=Ground.data},{on:=6,ground:=Ground.chain},{on:=0,ground:=Ground.phase},{on:=1,ground:=Ground.phase},{on:=2,ground:=Ground.phase},{on:=3,ground:=Ground.phase},{on:=4,ground:=Ground.phase},{on:=5,ground:=Ground.phase},{on:=6,ground:=Ground.phase}],guard:=none}) rfl (λ KK hK=>?_) AllReadyH.nil)
    go_simp
    refine hK.out _ _ (by exact m4) (λ hS6=>?_)
    clear hK KK;try simp only [Act.put,List.setIfInBounds_toArray,List.set_cons_zero,List.set_cons_succ]
    refine wpAnyH_done (by kernel_rfl) ?_ _
    exact ⟨rfl,h9⟩
   case hb=>
    go_simp
    refine HC.out.mono ?_
    rintro e Z ⟨gx,Cx,rfl,bZ,z0,z1,z2,z3,a9,c9,w9,e9,m1,m2,m3,m4,h9⟩;refine hK.out _ _ (by exact z0) (λ hS1=>?_)
    clear hK KK;try simp only [Act.put,List.setIfInBounds_toArray,List.set_cons_zero,List.set_cons_succ]
    refine wpAnyH_ready (rs:=[0,5]) (by kernel_rfl) (by simp) (AllReadyH.cons (o:={dst:=some 41,op:=Op.load 74 (Operand.tmp 7),type:=74,pos:="ckpt.go:154",after:=#[],guard:=none}) rfl (λ KK hK=>?hc) (AllReadyH.cons (o:={dst:=some 46,op:=Op.buildSlice 74 1 #[(0,Operand.tmp 45)],type:=74,pos:="ckpt.go:154",after:=#[{on:=4,ground:=Ground.data}],guard:=none}) rfl (λ KK hK=>?hd) AllReadyH.nil))
    case hc=>
     go_simp
     refine hK.out _ _ (by exact z0) (λ hS2=>?_)
     clear hK KK;try simp only [Act.put,List.setIfInBounds_toArray,List.set_cons_zero,List.set_cons_succ]
     refine wpAnyH_ready (rs:=[5]) (by kernel_rfl) (by simp) (AllReadyH.cons (o:={dst:=some 46,op:=Op.buildSlice 74 1 #[(0,Operand.tmp 45)],type:=74,pos:="ckpt.go:154",after:=#[{on:=4,ground:=Ground.data}],guard:=none}) rfl (λ KK hK=>?_) AllReadyH.nil)
     go_simp
     refine hK.out _ _ (by exact z1 _) (λ hS3=>?_)
     clear hK KK;try simp only [Act.put,List.setIfInBounds_toArray,List.set_cons_zero,List.set_cons_succ]
     refine wpAnyH_ready (rs:=[6]) (by kernel_rfl) (by simp) (AllReadyH.cons (o:={dst:=some 47,op:=Op.call {callee:=Callee.builtin Builtin.append,args:=#[Operand.tmp 41,Operand.tmp 46],argTypes:=#[74,74]},type:=74,pos:="ckpt.go:154",after:=#[{on:=0,ground:=Ground.data},{on:=5,ground:=Ground.data},{on:=4,ground:=Ground.chain}],guard:=none}) rfl (λ KK hK=>?_) AllReadyH.nil)
     refine Qaq rfl (.tmp 41) (.tmp 46) 74 74 rfl _ _ rfl rfl _ _ e9 ?_
     refine hK.out _ _ (by exact m3) (λ hS5=>?_)
     clear hK KK;try simp only [Act.put,List.setIfInBounds_toArray,List.set_cons_zero,List.set_cons_succ]
     refine wpAnyH_ready (rs:=[7]) (by kernel_rfl) (by simp) (AllReadyH.cons (o:={dst:=none,op:=Op.store 74 (Operand.tmp 7) (Operand.tmp 47),type:=0,pos:="ckpt.go:154",after:=#[{on:=6,ground:=Ground.data},{on:=6,ground:=Ground.chain},{on:=0,ground:=Ground.phase},{on:=1,ground:=Ground.phase},{on:=2,ground:=Ground.phase},{on:=3,ground:=Ground.phase},{on:=4,ground:=Ground.phase},{on:=5,ground:=Ground.phase},{on:=6,ground:=Ground.phase}],guard:=none}) rfl (λ KK hK=>?_) AllReadyH.nil)
     go_simp
     refine hK.out _ _ (by exact m4) (λ hS6=>?_)
     clear hK KK;try simp only [Act.put,List.setIfInBounds_toArray,List.set_cons_zero,List.set_cons_succ]
     refine wpAnyH_done (by kernel_rfl) ?_ _
     exact ⟨rfl,h9⟩
    case hd=>
     go_simp
     refine hK.out _ _ (by exact z1 _) (λ hS2=>?_)
     clear hK KK;try simp only [Act.put,List.setIfInBounds_toArray,List.set_cons_zero,List.set_cons_succ]
     refine wpAnyH_ready (rs:=[0]) (by kernel_rfl) (by simp) (AllReadyH.cons (o:={dst:=some 41,op:=Op.load 74 (Operand.tmp 7),type:=74,pos:="ckpt.go:154",after:=#[],guard:=none}) rfl (λ KK hK=>?_) AllReadyH.nil)
     go_simp
     refine hK.out _ _ (by exact z1 _) (λ hS3=>?_)
     clear hK KK;try simp only [Act.put,List.setIfInBounds_toArray,List.set_cons_zero,List.set_cons_succ]
     refine wpAnyH_ready (rs:=[6]) (by kernel_rfl) (by simp) (AllReadyH.cons (o:={dst:=some 47,op:=Op.call {callee:=Callee.builtin Builtin.append,args:=#[Operand.tmp 41,Operand.tmp 46],argTypes:=#[74,74]},type:=74,pos:="ckpt.go:154",after:=#[{on:=0,ground:=Ground.data},{on:=5,ground:=Ground.data},{on:=4,ground:=Ground.chain}],guard:=none}) rfl (λ KK hK=>?_) AllReadyH.nil)
     refine Qaq rfl (.tmp 41) (.tmp 46) 74 74 rfl _ _ rfl rfl _ _ e9 ?_
     refine hK.out _ _ (by exact m3) (λ hS5=>?_)
     clear hK KK;try simp only [Act.put,List.setIfInBounds_toArray,List.set_cons_zero,List.set_cons_succ]
     refine wpAnyH_ready (rs:=[7]) (by kernel_rfl) (by simp) (AllReadyH.cons (o:={dst:=none,op:=Op.store 74 (Operand.tmp 7) (Operand.tmp 47),type:=0,pos:="ckpt.go:154",after:=#[{on:=6,ground:=Ground.data},{on:=6,ground:=Ground.chain},{on:=0,ground:=Ground.phase},{on:=1,ground:=Ground.phase},{on:=2,ground:=Ground.phase},{on:=3,ground:=Ground.phase},{on:=4,ground:=Ground.phase},{on:=5,ground:=Ground.phase},{on:=6,ground:=Ground.phase}],guard:=none}) rfl (λ KK hK=>?_) AllReadyH.nil)
     go_simp
     refine hK.out _ _ (by exact m4) (λ hS6=>?_)
     clear hK KK;try simp only [Act.put,List.setIfInBounds_toArray,List.set_cons_zero,List.set_cons_succ]
     refine wpAnyH_done (by kernel_rfl) ?_ _
     exact ⟨rfl,h9⟩
 case iter=>
  intro R W hY hbk h0;have hm2:Qd4 r n=m:=by rw [(J8 H)];unfold mK;rw [(J9 H),H.out.1.1]
  have hr:=HR.out;refine (Qtd (A:=A) (n:=n) (C:=C) (r:=r) (f:=5 - 1) (J:=WrSt w q Lb B1 (B1+1) s.b seq A n C m r ls) (by omega) (by omega) (by have:=(J14 H);omega) (J2 H) (λ k W h=>⟨h.p1.cell 0,h.p2.cell 0⟩) ?more ?last hY W hbk h0).mono ?_
  case more=>
   intro k W h h1 h2;refine ⟨h,?_,_,_,_,rfl,?_⟩
   ·rw [<-hm2]
    have:=Qen (r:=r) (n:=n) (by omega);rcases Nat.lt_or_ge k (Qd4 r n) with h3 | h3
    ·exact h3
    ·have:=Nat.mul_le_mul_right r h3
     omega
   ·have:=(H.out.1.cuts (r:=r) (J2 H) k h1).front r (by omega)
    exact this.below (by rw [<-(J6 H)];exact h.below)
  case last=>
   intro k W h h1 h2 h3;refine ⟨h,by rw [<-hm2,Qjy (by omega) h2 h3];omega,_,_,_,rfl,?_⟩
   have:=H.out.1.cuts (r:=r) (J2 H) k h1;have e:Qb7 r k ps=ps.drop (k*r):=by
    rw [Qtj,List.take_of_length_le];rw [List.length_drop,H.out.1.1];exact h2
   rw [e];exact this.below (by rw [<-(J6 H)];exact h.below)
  rintro e W' ⟨hv,hb,hj⟩;rw [hm2] at hj;exact ⟨hv,hb,hj⟩
 case done=>
  intro W hst hdf;obtain ⟨v,o1,o2⟩:=hst.o;have htl:ls.take m=ls:=List.take_of_length_le (by rw [HQ.out.2,Qbt,<-(J8 H)];exact Nat.le_refl _);rw [htl] at o2;have HO:=Jh3 hst o2 hdf;obtain ⟨av,cv,hv⟩:=o2.slice;subst hv;have c0:W.cell? ⟨Lb,0,none⟩=some (.slice av ls.length cv):=o1.cell 0;clear hst o1 o2 hdf htl;go_wp2
  obtain ⟨hst,o2,hK⟩:=HO.out;have hcm:=Qiv hK (.deferred none);refine ⟨by simp,.inl ⟨_,_,rfl,run_takeDeferred hK,?_⟩⟩
  refine ⟨_,results_tmp rfl _ _ _,_,rfl,?_,?_⟩
  ·rw [<-(J6 H),<-HQ.out.2];exact hcm.row o2
  ·rw [<-(J6 H)]
   exact hst.below.trans (hcm.2.1.below (by have:=hst.b0.lt;omega) (λ j e=>by have:=HQ.out.1;omega))
end
theorem Qq9 {r n z:Nat} (hr:0<r) (hz:1<=z):Qd4 r n<=z↔n<=z*r:=by
 constructor
 ·intro h
  have h1:=Qen (r:=r) (n:=n) hr;have h2:=Nat.mul_le_mul_right r h;omega
 ·intro h
  unfold Qd4;have:(n+r - 1) / r<=z:=by
   rw [Nat.div_le_iff_le_mul_add_pred hr];rw [Nat.mul_comm];omega
  omega
theorem Qms (p q:Addr) (w:World) :
  CallsD prog 81 #[.pointer (some p),.pointer (some q)] .returning w λ e u' w'=>e=.returned (.tuple #[])/\u'=.returning/\w'=w:=by
 refine callsD_of_wpS func81 rfl λ c₀ cs hu=>?_
 apply wpS_seq
 apply wpS_region
 simp [wpOpsS,go_sem,recoverD,hu,ntmps81,Exit.thenS]
 refine wpS_cond (t:=false) (by simp [Act.eval,Array.replicate]) ?_
 simp only [Bool.false_eq_true,if_false]
 refine wpS_of_wp (wp_skip ?_)
 cases c₀
 simp_all [bodyPostS,results,Tryz.results81]
theorem Qho (p q:Nat) (u:TypeId) (pv:Value) (older:List PanicEntry) (w:World) (v0 v1:Value)
  (hp:w.cell? ⟨p,0,none⟩=some v0) (hq:w.cell? ⟨q,0,none⟩=some v1) (zp:w.frozen? ⟨p,0,none⟩=false) (zq:w.frozen? ⟨q,0,none⟩=false) (hne:q≠p) :
  CallsD prog 81 #[.pointer (some ⟨p,0,none⟩),.pointer (some ⟨q,0,none⟩)] (.panicking ({v:=.iface u pv,recovered:=false} :: older)) w λ e u' w'=>
   e=.returned (.tuple #[])/\u'=.panicking ({v:=.iface u pv,recovered:=true} :: older)/\w'=(w.setCell ⟨p,0,none⟩ (.slice none 0 0)).setCell ⟨q,0,none⟩ (.int .u16 141):=by
 refine callsD_of_wpS func81 rfl λ c₀ cs hu=>?_
 apply wpS_seq
 apply wpS_region
 simp [wpOpsS,go_sem,recoverD,hu,ntmps81,Exit.thenS]
 refine wpS_cond (t:=true) (by simp [Act.eval,Array.replicate]) ?_
 simp only [if_true]
 apply wpS_region
 simp [wpOpsS,go_sem,hp,hq,zp,zq,bodyPostS,results,Tryz.results81]
theorem out_row' {B:Nat} {V:World} {g:Nat} {L:List Value} {t:TypeId} (hg:Blk V g L t) (i:Nat) (u:Value) {v:Value} {bs:List (List Int)} (hr:RowAt (λ j=>B<=j) V v bs) (hB:g<B):RowAt (λ j=>B<=j) (V.setCell ⟨g,i,none⟩ u) v bs:=by
 obtain ⟨vs,r1,r2,r3,r4⟩:=id hr;refine hr.out (Qc1 V g i u) (λ r e e'=>by have:=r2 r e;omega) (λ c cur hc _ e=>by omega)
def Qjp (w:World) (s:Sh) (seq:Int) (ps:List Pl) (e:Ending) (w':World):Prop:=
 ∃v,e=.returned (.tuple #[v,.int .u16 (ckE s ps)])/\RowAt (λ j=>w.heap.size<=j) w' v (ckO s seq ps)/\Below w.heap.size w w'
theorem Qqu {w V:World} {s:Sh} {seq:Int} {ps:List Pl} {E:Int} (h:ckE s ps=E) (h0:E≠0) (hb:Below w.heap.size w V):Qjp w s seq ps (.returned (.tuple #[.slice none 0 0,.int .u16 E])) V:=by
 refine ⟨_,by rw [h],?_,hb⟩
 unfold ckO;rw [if_neg (by rw [h];exact h0)];exact RowAt.nil _ _
def defE (q:Nat):List Deferred:=[{target:=.fn (.func 81) #[.pointer (some ⟨q+2,0,none⟩),.pointer (some ⟨q+3,0,none⟩)],args:=#[]}]
theorem Qhv (q:Nat) (tmps:Array Value) (w:World) (v1 v2:Value) (h4:tmps.getD 4 undef=.pointer (some ⟨q+2,0,none⟩)) (h5:tmps.getD 5 undef=.pointer (some ⟨q+3,0,none⟩)) (c1:w.cell? ⟨q+2,0,none⟩=some v1) (c2:w.cell? ⟨q+3,0,none⟩=some v2) :
  (results Tryz.f32 tmps).run prog w=.ok (.tuple #[v1,v2]) w:=by
 have k4:tmps[4]?.getD undef=.pointer (some ⟨q+2,0,none⟩):=by simpa using h4
 have k5:tmps[5]?.getD undef=.pointer (some ⟨q+3,0,none⟩):=by simpa using h5
 simp [results,Tryz.results32,go_sem,k4,k5,c1,c2]
theorem Qvx {q:Nat} {w V:World} {s:Sh} {seq:Int} {ps:List Pl} (hq:q=w.heap.size) (hb:Blk V (q+2) [.slice none 0 0] 74) (he:Blk V (q+3) [.int .u16 0] 51) (bel:Below w.heap.size w V) (hno:¬Qm8 s ps) (tmps:Array Value) (h4:tmps.getD 4 undef=.pointer (some ⟨q+2,0,none⟩)) (h5:tmps.getD 5 undef=.pointer (some ⟨q+3,0,none⟩)) :
  Leaves prog Tryz.f32 tmps (Qjp w s seq ps) (defE q) (.panicking [{v:=.iface 9 (.string noBk),recovered:=false}]) V:=by
 refine leaves_cons (f:=81) (args:=#[.pointer (some ⟨q+2,0,none⟩),.pointer (some ⟨q+3,0,none⟩)]) (by simp) (by simp [go_sem]) ?_
 refine (Qho (q+2) (q+3) 9 _ [] _ _ _ (hb.cell 0) (he.cell 0) (hb.frozen 0) (he.frozen 0) (by omega)).mono ?_
 rintro e u' w'' ⟨rfl,rfl,rfl⟩;have k1:=(hb.set 0 (.slice none 0 0)).set_other (a:=⟨q+3,0,none⟩) (by show q+2≠q+3;omega) (.int .u16 141);have k2:=(he.set_other (a:=⟨q+2,0,none⟩) (by show q+3≠q+2;omega) (.slice none 0 0)).set 0 (.int .u16 141);exact ⟨_,Qhv q tmps _ _ _ h4 h5 (k1.cell 0) (k2.cell 0),Qqu (by unfold ckE;rw [if_neg hno]) (by decide) ((bel.setCell (by show w.heap.size<=q+2;omega) _).setCell (by show w.heap.size<=q+3;omega) _)⟩
theorem Qod {q:Nat} {w V:World} {s:Sh} {seq:Int} {ps:List Pl} {v:Value} {E:Int} (hb:Blk V (q+2) [v] 74) (he:Blk V (q+3) [.int .u16 E] 51) (hg:Qjp w s seq ps (.returned (.tuple #[v,.int .u16 E])) V) (tmps:Array Value) (h4:tmps.getD 4 undef=.pointer (some ⟨q+2,0,none⟩)) (h5:tmps.getD 5 undef=.pointer (some ⟨q+3,0,none⟩)) :
  Leaves prog Tryz.f32 tmps (Qjp w s seq ps) (defE q) .returning V:=by
 refine leaves_cons (f:=81) (args:=#[.pointer (some ⟨q+2,0,none⟩),.pointer (some ⟨q+3,0,none⟩)]) (by simp) (by simp [go_sem]) ?_
 refine (Qms _ _ _).mono ?_
 rintro e u' w'' ⟨rfl,rfl,rfl⟩;exact ⟨_,Qhv q tmps _ _ _ h4 h5 (hb.cell 0) (he.cell 0),hg⟩
set_option maxHeartbeats 2000000 in
theorem Qk0 (s:Sh) (seq:Int) (A:Option Addr) (n C:Nat) (ps:List Pl) (w:World) (hz:-9223372036854775808<=s.z) (hs:Qai seq) (hk:KIn w A n ps) (hnC:n<=C) :
  Calls prog 32 #[.agg (shL s).toArray,.agg #[.int .u64 seq,.slice A n C]] w (Qjp w s seq ps):=by
 have hmf:∀(fn:Fn) (first cap:Array Value) (w:World),(Instr.makeFunc fn first cap).run prog w=.ok (.func fn first cap) w:=λ _ _ _ _=>rfl
 obtain ⟨q,hq⟩:∃q,q=w.heap.size:=⟨_,rfl⟩
 have HW:Hid (Blk ((((w.alloc (.cells #[.int .i64 s.z,.int .i64 s.zb,.int .i64 s.b,.int .i64 s.r] 23)).alloc (.cells #[.int .u64 seq,.slice A n C] 82)).alloc (.cells #[.slice none 0 0] 74)).alloc (.cells #[.int .u16 0] 51)) q (shL s) 23/\Blk ((((w.alloc (.cells #[.int .i64 s.z,.int .i64 s.zb,.int .i64 s.b,.int .i64 s.r] 23)).alloc (.cells #[.int .u64 seq,.slice A n C] 82)).alloc (.cells #[.slice none 0 0] 74)).alloc (.cells #[.int .u16 0] 51)) (q+1) [.int .u64 seq,.slice A n C] 82/\Blk ((((w.alloc (.cells #[.int .i64 s.z,.int .i64 s.zb,.int .i64 s.b,.int .i64 s.r] 23)).alloc (.cells #[.int .u64 seq,.slice A n C] 82)).alloc (.cells #[.slice none 0 0] 74)).alloc (.cells #[.int .u16 0] 51)) (q+2) [.slice none 0 0] 74/\Blk ((((w.alloc (.cells #[.int .i64 s.z,.int .i64 s.zb,.int .i64 s.b,.int .i64 s.r] 23)).alloc (.cells #[.int .u64 seq,.slice A n C] 82)).alloc (.cells #[.slice none 0 0] 74)).alloc (.cells #[.int .u16 0] 51)) (q+3) [.int .u16 0] 51/\Below w.heap.size w ((((w.alloc (.cells #[.int .i64 s.z,.int .i64 s.zb,.int .i64 s.b,.int .i64 s.r] 23)).alloc (.cells #[.int .u64 seq,.slice A n C] 82)).alloc (.cells #[.slice none 0 0] 74)).alloc (.cells #[.int .u16 0] 51))):=
  ⟨(((Blk.new' hq.symm rfl).alloc _).alloc _).alloc _,((Blk.new' (by simp [hq]) rfl).alloc _).alloc _,(Blk.new' (by simp [hq]) rfl).alloc _,Blk.new' (by simp [hq]) rfl,((((Below.refl _ _).alloc (Nat.le_refl _) _).alloc (by simp) _).alloc (by simp;omega) _).alloc (by simp;omega) _⟩
 have H:=Jh5 hs hk hnC hq hz;clear hs hk hnC hz;simp only [shL]
 go_enter_defers func32,ntmps32
 go_upto_region 2 with fail
 rw [<-hq];have e2:q+1+1=q+2:=rfl;have e3:q+2+1=q+3:=rfl;rw [e2,e3];clear hq e2 e3;generalize hW:World.alloc (World.alloc (World.alloc (World.alloc w _) _) _) _=W at HW ⊢;clear hW;have c0:W.cell? ⟨q,0,none⟩=some (.int .i64 s.z):=HW.out.1.cell 0;have c1:W.cell? ⟨q,1,none⟩=some (.int .i64 s.zb):=HW.out.1.cell 1;have c2:W.cell? ⟨q,2,none⟩=some (.int .i64 s.b):=HW.out.1.cell 2;have c3:W.cell? ⟨q,3,none⟩=some (.int .i64 s.r):=HW.out.1.cell 3;have c4:W.cell? ⟨q+1,1,none⟩=some (.slice A n C):=(J2 HW).cell 1;go_wp2_with fail
 refine (Qvz s A n C ps W (Jz4 H) ((J2 H).below (Jz4 HW))).mono ?_
 rintro e W2 ⟨b2,(⟨hno,he⟩ | ⟨hg,rfl⟩)⟩
 ·unfold Qdm at he
  subst he;exact Qvx (J4 H) ((J3 HW).below b2 (J3 HW).lt) ((J4 HW).below b2 (J4 HW).lt) ((Jz4 HW).trans (b2.mono (Jz4 HW).size)) hno _ rfl rfl
 ·have HV:=Jh6 (HW.out.1.below b2 HW.out.1.lt) ((J2 HW).below b2 (J2 HW).lt) ((J3 HW).below b2 (J3 HW).lt) ((J4 HW).below b2 (J4 HW).lt) ((Jz4 HW).trans (b2.mono (Jz4 HW).size)) hg
  clear c0 c1 c2 c3 c4 b2 hg HW;have d0:W2.cell? ⟨q,0,none⟩=some (.int .i64 s.z):=HV.out.1.cell 0;have d1:W2.cell? ⟨q,1,none⟩=some (.int .i64 s.zb):=HV.out.1.cell 1;have d2:W2.cell? ⟨q,2,none⟩=some (.int .i64 s.b):=HV.out.1.cell 2;have d4:W2.cell? ⟨q+1,1,none⟩=some (.slice A n C):=(J2 HV).cell 1;have d5:W2.cell? ⟨q+1,0,none⟩=some (.int .u64 seq):=(J2 HV).cell 0;have hright:=(J6 HV)
  obtain ⟨r,hr⟩:∃r:Nat,Qdx s.b=r:=⟨Qbl s,by have:=Qgl hright.2.2.2.2.1;unfold Qbl;omega⟩
  have hrN:Qbl s=r:=by unfold Qbl;omega
  have hrb:=Qcv hright;rw [hrN] at hrb;obtain ⟨zb,hzb⟩:∃zb:Nat,s.zb=zb:=⟨s.zb.toNat,by have:=hright.2.2.1;omega⟩
  have hzbb:8<=zb/\zb<=4096:=by have h1:=hright.2.2.1;have h2:=hright.2.2.2.1;omega
  have hmul:zb*r<=4096*254:=Nat.mul_le_mul hzbb.2 hrb.2.2;obtain ⟨M,hM⟩:∃M:Nat,M=zb*r:=⟨_,rfl⟩
  have w1:IntKind.i64.wrap (s.zb*(r:Int))=(M:Int):=by
   rw [hzb,<-Int.natCast_mul,<-hM,IntKind.wrap_i64];omega
  have hlen:=(J2 H).1;have hn64:n<=9223372036854775807:=by have:=(J2 H).2.1;unfold maxLen at this;omega
  have hmm:mK s ps<=zb↔n<=M:=by
   unfold mK;rw [hrN,hlen,hM];exact Qq9 (by omega) (by omega)
  have HM:=Jh4 hmm hzb hzbb.2 hr;have hRm:∀X:World,Calls prog 83 #[.int .i64 s.b] X λ e w'=>e=.returned (.int .i64 (r:Int))/\w'=X:=λ X=>by rw [<-hr];exact Qr2 s.b X
  clear hmm hzb hzbb hmul hr hrN hrb hM hlen hright;by_cases hbig:n<=M
  ·have hb1:decide ((M:Int)<(n:Int))=false:=by simp;omega
   have hb2:decide (M<n)=false:=by simp;omega
   have HBg:=Jh1 hbig;clear hbig;go_wp2
   refine wp_region_noPanic ?_
   go_quiet ((go_at_call 83;exact Calls.quiet_of_same (hRm _)))
   refine NoPanic.normal ?_
   have HX:Hid (Blk (W2.drewN nq) q (shL s) 23/\Blk (W2.drewN nq) (q+1) [.int .u64 seq,.slice A n C] 82/\Blk (W2.drewN nq) (q+2) [.slice none 0 0] 74/\Blk (W2.drewN nq) (q+3) [.int .u16 0] 51/\Below w.heap.size w (W2.drewN nq)):=⟨HV.out.1.drewN _,(J2 HV).drewN _,(J3 HV).drewN _,(J4 HV).drewN _,below_drewN (J5 HV) nq⟩
   clear d0 d1 d2 d4 d5 w1 hRm;generalize World.drewN W2 nq=V at HX ⊢;have d0:V.cell? ⟨q,0,none⟩=some (.int .i64 s.z):=HX.out.1.cell 0;have d2:V.cell? ⟨q,2,none⟩=some (.int .i64 s.b):=HX.out.1.cell 2;have d4:V.cell? ⟨q+1,1,none⟩=some (.slice A n C):=(J2 HX).cell 1;have d5:V.cell? ⟨q+1,0,none⟩=some (.int .u64 seq):=(J2 HX).cell 0;go_wp2_with fail
   refine (Qpo s seq A n C ps V ((J2 H).below (Jz4 HX)) (J3 H) H.out.1 (J6 HV) (Qi1 (Jz5 HV) (λ p hp=>((J2 H).2.2.1 p hp).1)) (by have:=HM.out.1.2 HBg.out;have:=(J3 HM);omega)).mono ?_
   rintro e W3 ⟨v,rfl,r3,b3⟩;have k2:=(J3 HX).below b3 (J3 HX).lt;have k3:=(J4 HX).below b3 (J4 HX).lt;have hqw:=(J4 H)
   have f2:W3.cell? ⟨q+2,0,none⟩=some (.slice none 0 0):=k2.cell 0;have f3:W3.cell? ⟨q+3,0,none⟩=some (.int .u16 0):=k3.cell 0;have z2:=k2.frozen 0;have z3:=k3.frozen 0;obtain ⟨av,cv,hv⟩:=r3.slice;obtain ⟨nv,hnv⟩:∃nv,nv=(ckL s seq ps).length:=⟨_,rfl⟩
   rw [<-hnv] at hv;subst hv;have HZ:Hid (Blk ((W3.setCell ⟨q+2,0,none⟩ (.slice av nv cv)).setCell ⟨q+3,0,none⟩ (.int .u16 0)) (q+2) [.slice av nv cv] 74/\Blk ((W3.setCell ⟨q+2,0,none⟩ (.slice av nv cv)).setCell ⟨q+3,0,none⟩ (.int .u16 0)) (q+3) [.int .u16 0] 51/\Qjp w s seq ps (.returned (.tuple #[.slice av nv cv,.int .u16 0])) ((W3.setCell ⟨q+2,0,none⟩ (.slice av nv cv)).setCell ⟨q+3,0,none⟩ (.int .u16 0))):=by
    have hE:ckE s ps=0:=Qb2.2 ⟨(Jz5 HV),by have:=HM.out.1.2 HBg.out;rw [(J2 HM)];omega⟩;have hsz:w.heap.size<=V.heap.size:=(Jz4 HX).size;refine ⟨(k2.set 0 _).set_other (by show q+2≠q+3;omega) _,(k3.set_other (by show q+3≠q+2;omega) _).set 0 _,_,by rw [hE],?_,(((Jz4 HX).trans (b3.mono hsz)).setCell (by show w.heap.size<=q+2;omega) _).setCell (by show w.heap.size<=q+3;omega) _⟩
    unfold ckO;rw [if_pos hE];have r4:=r3.mono (O':=λ j=>w.heap.size<=j) (λ c hc _=>Nat.le_trans hsz hc);have hlt:=(J4 HX).lt;have r5:=out_row' k2 0 (.slice av nv cv) r3 (by omega);have r6:=Qdh (k3.set_other (a:=⟨q+2,0,none⟩) (by show q+3≠q+2;omega) (.slice av nv cv)) (by decide) (by decide) 0 (.int .u16 0) r5;exact r6.mono (λ c hc _=>Nat.le_trans hsz hc)
   clear k2 k3 b3 r3 hqw hnv;go_wp2
   exact Qod HZ.out.1 (J2 HZ) (Jz2 HZ) _ rfl rfl
  ·have hb1:(M:Int)<(n:Int):=by omega
   have HBg:=Jh1 hbig;clear hbig;go_wp2
   refine wp_region_noPanic ?_
   go_quiet ((go_at_call 83;exact Calls.quiet_of_same (hRm _)))
   refine NoPanic.normal ?_
   have HX:Hid (Blk (W2.drewN nq) q (shL s) 23/\Blk (W2.drewN nq) (q+1) [.int .u64 seq,.slice A n C] 82/\Blk (W2.drewN nq) (q+2) [.slice none 0 0] 74/\Blk (W2.drewN nq) (q+3) [.int .u16 0] 51/\Below w.heap.size w (W2.drewN nq)):=⟨HV.out.1.drewN _,(J2 HV).drewN _,(J3 HV).drewN _,(J4 HV).drewN _,below_drewN (J5 HV) nq⟩
   clear d0 d1 d2 d4 d5 w1 hRm;generalize World.drewN W2 nq=V at HX ⊢;have d0:V.cell? ⟨q,0,none⟩=some (.int .i64 s.z):=HX.out.1.cell 0;have d2:V.cell? ⟨q,2,none⟩=some (.int .i64 s.b):=HX.out.1.cell 2;have d4:V.cell? ⟨q+1,1,none⟩=some (.slice A n C):=(J2 HX).cell 1;have d5:V.cell? ⟨q+1,0,none⟩=some (.int .u64 seq):=(J2 HX).cell 0;have f2:V.cell? ⟨q+2,0,none⟩=some (.slice none 0 0):=(J3 HX).cell 0;have f3:V.cell? ⟨q+3,0,none⟩=some (.int .u16 0):=(J4 HX).cell 0;have z2:=(J3 HX).frozen 0;have z3:=(J4 HX).frozen 0;have HZ:Hid (Blk ((V.setCell ⟨q+2,0,none⟩ (.slice none 0 0)).setCell ⟨q+3,0,none⟩ (.int .u16 140)) (q+2) [.slice none 0 0] 74/\Blk ((V.setCell ⟨q+2,0,none⟩ (.slice none 0 0)).setCell ⟨q+3,0,none⟩ (.int .u16 140)) (q+3) [.int .u16 140] 51/\Qjp w s seq ps (.returned (.tuple #[.slice none 0 0,.int .u16 140])) ((V.setCell ⟨q+2,0,none⟩ (.slice none 0 0)).setCell ⟨q+3,0,none⟩ (.int .u16 140))):=by
    have hqw:=(J4 H)
    have hE:ckE s ps=140:=by
     unfold ckE;rw [if_pos (Jz5 HV),if_neg];intro h;rw [(J2 HM)] at h;exact HBg.out (HM.out.1.1 (by omega))
    exact ⟨((J3 HX).set 0 _).set_other (by show q+2≠q+3;omega) _,((J4 HX).set_other (by show q+3≠q+2;omega) _).set 0 _,Qqu hE (by decide) (((Jz4 HX).setCell (by show w.heap.size<=q+2;omega) _).setCell (by show w.heap.size<=q+3;omega) _)⟩
   go_wp2
   exact Qod HZ.out.1 (J2 HZ) (Jz2 HZ) _ rfl rfl
end Go.Proofs.YtcdnjeiamihhbaaGreat

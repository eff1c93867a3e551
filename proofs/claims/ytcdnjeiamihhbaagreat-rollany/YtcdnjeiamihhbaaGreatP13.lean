/- P13 -/
import Derived.Test.YtcdnjeiamihhbaaGreatP12
set_option linter.unusedVariables false
set_option maxRecDepth 4000
open Go.Proofs.Tryz
namespace Go.Proofs.YtcdnjeiamihhbaaGreat
open Go.RowKit Go.Shelf
def BOk (s:Sh) (zs:List Zn) (j:Nat) (B S:Int) (xs:List Pl) (Aa Er:Int):Prop:=Qa2 s zs j=(S,xs,Aa,Er)/\((Er=0/\B=Aa/\0<=Aa)\/(S=0/\xs=[]/\Aa=0/\Er=142/\B = -1))
set_option maxHeartbeats 4000000 in
theorem Qup {O:Nat->Prop} {W:World} {p:Nat} {s:Sh} {zs:List Zn} (hd:Dv 101 O W p s zs) (hw:Wf s zs) :
  Calls prog 101 #[.pointer (some ⟨p,0,none⟩)] W (Qj4 .i64 W s zs):=by
 obtain ⟨q,hq⟩:∃q,q=W.heap.size:=⟨_,rfl⟩
 have st0:LdSt q W ((W.alloc (.cells #[.int .u64 0,.slice none 0 0] 82)).alloc (.cells #[.int .u64 0,.slice none 0 0] 82)) 0 none 0 0 []:=⟨(Blk.new' hq.symm rfl).alloc _,Blk.new' (by simp [hq]) rfl,Qfa _,Nat.le_refl _,((Below.refl _ _).alloc (Nat.le_refl _) _).alloc (by simp) _,hq⟩
 have H:Hid (Dv 101 O W p s zs/\Wf s zs/\q=W.heap.size/\6<=zs.length/\-9223372036854775808<=s.z):=⟨hd,hw,hq,by have h1:=hw.len;have h2:=hw.right.1;omega,by have h2:=hw.right.1;omega⟩
 clear hd hw;go_enter func101,ntmps101
 go_upto_region 3 with fail
 rw [<-hq];clear hq;generalize hW0:World.alloc (World.alloc W _) _=W0 at st0 ⊢;have H0:=Jh1 st0;clear st0 hW0;go_wp2
 go_loopw [5,7] (λ vb x wr=>∃(j:Nat) (B S Aa Er:Int) (xs:List Pl) (A:Option Addr) (N C:Nat),x=.int .i64 j/\vb=.int .i64 B/\j<=2/\BOk s zs j B S xs Aa Er/\LdSt q W wr S A N C xs) (λ _ x _=>2 - (intOf x).toNat)
 case atStart=>exact ⟨0,-1,0,0,142,[],none,0,0,rfl,rfl,by omega,⟨rfl,.inr ⟨rfl,rfl,rfl,rfl,rfl⟩⟩,H0.out⟩
 case round=>
  obtain ⟨j,B,S,Aa,Er,xs,A,N,C,rfl,rfl,hj,hbest,st⟩:=hrel;rcases Nat.lt_or_ge j 2 with hlt | hge
  ·obtain ⟨z,hz⟩:∃z,zs[j]?=some z:=⟨zs[j]'(by have:=(J4 H);omega),by simp⟩
   have hj':(j:Int)<2:=by omega
   have hwj:IntKind.i64.wrap ((j:Int)+1)=(j:Int)+1:=by rw [IntKind.wrap_i64];omega
   obtain ⟨V0,hV0⟩:∃V0:World,V0=wr:=⟨_,rfl⟩
   subst hV0;obtain ⟨m,hm⟩:∃m,m=z.1.length:=⟨_,rfl⟩
   have hzl:=(J2 H).zone z (List.mem_of_getElem? hz);have hzr:=(J2 H).right;have hm4:m<=4096:=by have h1:=hzl.1;have h2:=hzr.2.2.2.1;omega
   have hlen:∀D∈z.1,D.length<=5000:=by
    intro D hD;have h1:=hzl.2.2.2 D hD;have h2:=Qbd hzr.2.2.2.2.1;omega
   have hAt:=Qt5 (j:Int) (Qa7 H.out.1 st.bel);rw [Qc0 hz,<-hm] at hAt;have HA:=Jh1 @hAt;have HST:=Jh5 st hbest hz hm hlen;clear st hbest hz hm hlen hAt hzl hzr;go_wp2_with (go_at_call 97;refine HA.out.mono ?_;rintro e V1 ⟨rfl,b1⟩)
   have H1:=Jh1 b1;clear b1 HA;go_loopw [10,11] (λ v x wr=>∃(t:Nat) (av:Option Addr) (cv:Nat),t<=m/\x=.int .i64 t/\v=.slice av t cv/\RowAt (λ k=>V0.heap.size<=k) wr (.slice av t cv) (z.1.take t)/\Below V0.heap.size V0 wr) (λ _ x _=>m - (intOf x).toNat)
   case atStart=>exact ⟨0,none,0,Nat.zero_le _,rfl,rfl,by simpa using RowAt.nil _ _,H1.out⟩
   case round=>
    obtain ⟨t,av,cv,ht,rfl,rfl,row,bl⟩:=hrel;rcases Nat.lt_or_ge t m with hlt2 | hge2
    ·obtain ⟨D,hD⟩:∃D,z.1[t]?=some D:=⟨z.1[t]'(by have:=(J4 HST);omega),by simp⟩
     obtain ⟨hrE,hrB⟩:=Qzg (J3 HST) hD;have hR:=Qra (j:Int) (t:Int) (Qa7 (Qa7 H.out.1 HST.out.1.bel) bl) (J2 H);have ht':(t:Int)<m:=by omega
     have hwt:IntKind.i64.wrap ((t:Int)+1)=(t:Int)+1:=by rw [IntKind.wrap_i64];omega
     have htl:(z.1.take t).length=t:=by rw [List.length_take];have:=(J4 HST);omega
     have HR:Hid (Calls prog 98 #[.pointer (some ⟨p,0,none⟩),.agg #[.int .i64 (j:Int),.int .i64 (t:Int)]] wr λ e X=>∃ax nx cx,e=.returned (.tuple #[.slice ax nx cx,.int .i64 0])/\∃a9 c9 w9,(Builtin.append_ #[74,74] 74 #[.slice av t cv,.slice (some ⟨X.heap.size,0,none⟩) 1 1]).run prog (X.alloc (.cells #[.slice ax nx cx] 71))=.ok (.slice a9 (t+1) c9) w9/\RowAt (λ k=>V0.heap.size<=k) w9 (.slice a9 (t+1) c9) (z.1.take (t+1))/\Below V0.heap.size V0 w9):=by
      refine hR.mono ?_
      rintro e X ⟨h,rfl,hbk,hb⟩;rw [hrE];rw [hrB] at hbk;obtain ⟨ax,cx,rfl⟩:=Qam hbk.1;have hqw:V0.heap.size<=wr.heap.size:=bl.size;have row':=row.out (Qab Non hb) (λ _ _=>id) (λ _ _ _ _=>id);obtain ⟨a9,c9,w9,e9,r9,g9,_⟩:=Qep row' (hbk.mono (O':=λ k=>V0.heap.size<=k) (λ c hc _=>Nat.le_trans hqw hc)) rfl (by rw [htl];omega) (λ k hk=>Nat.le_trans hqw (Nat.le_trans hb.size hk));rw [htl] at e9 r9;have bX:=bl.trans (hb.mono hqw);refine ⟨ax,_,cx,rfl,a9,c9,w9,e9,by rw [Qao hD];exact r9,?_⟩
      obtain ⟨vs,r1,r2,_⟩:=row';exact (bX.alloc (by have:=hb.size;omega) _).grown g9 (by simp;have:=hb.size;omega) (λ k hk=>r2 k hk)
     clear row bl hR hrE hrB hD htl;go_wp2_with (first
      | (go_at_call 98;refine HR.out.mono ?_;rintro e X ⟨ax,nx,cx,rfl,a9,c9,w9,e9,r9,b9⟩)
      | (at_builtin;refine Qag rfl (.tmp 39) (.tmp 41) 74 74 rfl _ _ rfl rfl _ _ e9 ?_))
     have H9:=Jh2 r9 b9;clear e9 r9 b9;go_roundw
     case rel=>exact ⟨t+1,a9,c9,by omega,by simp,by simp,H9.out.1,H9.out.2⟩
     case measure=>simp [intOf];omega
    ·obtain rfl:t=m:=by omega
     have htk:z.1.take t=z.1:=List.take_of_length_le (by rw [(J4 HST)];exact Nat.le_refl _);rw [htk] at row;have hbs:BsIn wr av t z.1:=row.bsin ((J2 H).short z (List.mem_of_getElem? (J3 HST)));have HSh:Hid (Calls prog 163 #[.pointer (some ⟨p,0,none⟩)] wr λ e Y=>e=.returned (.agg (shL s).toArray)/\Below wr.heap.size wr Y):=Qnh (Qa7 (Qa7 H.out.1 HST.out.1.bel) bl);have HDe:Hid (∀X,Below wr.heap.size wr X->Calls prog 162 #[.agg (shL s).toArray,.slice av t cv] X λ e Y=>∃A' n' C',e=.returned (.tuple #[.agg #[.int .u64 (dkS s z.1),.slice A' n' C'],.int .i64 (dkE s z.1)])/\KIn Y A' n' (dkX s z.1)/\n'<=C'/\Below V0.heap.size V0 Y):=by
      intro X hX;refine (Qop s av t cv z.1 X (Jz4 H) (hbs.below hX) (by omega) (Jz4 HST)).mono ?_
      rintro e Y ⟨A',n',C',rfl,h1,h2,h3⟩;have hb:=bl.trans (hX.mono bl.size);exact ⟨A',n',C',rfl,h1,h2,hb.trans (h3.mono hb.size)⟩
     obtain ⟨S',hS'⟩:∃S',S'=dkS s z.1:=⟨_,rfl⟩
     obtain ⟨E',hE'⟩:∃E',E'=dkE s z.1:=⟨_,rfl⟩
     rw [<-hS',<-hE'] at HDe;have HSE:=Jh2 hS' hE';clear hS' hE' row bl htk hbs;go_upto_region 14 with (first
      | (go_at_call 162;refine (HDe.out Y bY).mono ?_;rintro e Y2 ⟨A',n',C',rfl,k2,hn2,b2⟩)
      | (go_at_call 163;refine HSh.out.mono ?_;rintro e Y ⟨rfl,bY⟩))
     obtain ⟨q9,hq9⟩:∃q9,q9=Y2.heap.size:=⟨_,rfl⟩
     have H9:Hid (LdSt q W (Y2.alloc (.cells #[.int .u64 S',.slice A' n' C'] 82)) S A N C xs/\Blk (Y2.alloc (.cells #[.int .u64 S',.slice A' n' C'] 82)) q9 [.int .u64 S',.slice A' n' C'] 82/\KIn (Y2.alloc (.cells #[.int .u64 S',.slice A' n' C'] 82)) A' n' (dkX s z.1)/\n'<=C'/\q+2<=q9):=by
      have b3:Below V0.heap.size V0 (Y2.alloc (.cells #[.int .u64 S',.slice A' n' C'] 82)):=b2.alloc b2.size _;refine ⟨HST.out.1.below b3,Blk.new' hq9.symm rfl,k2.alloc _,hn2,?_⟩
      have h1:=HST.out.1.best.lt;have h2:=b2.size;omega
     rw [<-hq9];clear hq9 k2 hn2 b2 bY HSh HDe;generalize hW9:World.alloc Y2 _=W9 at H9 ⊢;clear hW9;by_cases hK:IsK s z.1
     ·have hE0:E'=0:=by rw [HSE.out.2];unfold dkE;rw [if_pos hK]
      have hSS:S'=Qa0 z.1:=by rw [HSE.out.1];unfold dkS;rw [if_pos hK]
      have hXX:dkX s z.1=Qaw z.1:=by unfold dkX;rw [if_pos hK]
      have HK:=Jh3 hK hSS hXX;clear hK hSS hXX;subst hE0;have c0:W9.cell? ⟨q9,0,none⟩=some (.int .u64 S'):=(J2 H9).cell 0;have c1:W9.cell? ⟨q9,1,none⟩=some (.slice A' n' C'):=(J2 H9).cell 1;have d0:W9.cell? ⟨q+1,0,none⟩=some (.int .u64 S):=H9.out.1.best.cell 0;have d1:W9.cell? ⟨q+1,1,none⟩=some (.slice A N C):=H9.out.1.best.cell 1;have z0:=H9.out.1.best.frozen 0;have z1:=H9.out.1.best.frozen 1;have hqn:q9≠q+1:=by have:=(Jz4 H9);omega
      have HT:Hid ((Er≠0\/S<S')->LdSt q W ((W9.setCell ⟨q+1,0,none⟩ (.int .u64 S')).setCell ⟨q+1,1,none⟩ (.slice A' n' C')) S' A' n' C' (Qaw z.1)/\BOk s zs (j+1) (j:Int) S' (Qaw z.1) (j:Int) 0):=by
       intro h;have hqw:=(J3 H)
       have e1:Blk (W9.setCell ⟨q+1,0,none⟩ (.int .u64 S')) (q+1) [.int .u64 S',.slice A N C] 82:=H9.out.1.best.set 0 _;refine ⟨⟨(H9.out.1.res.set_other (by show q≠q+1;omega) _).set_other (by show q≠q+1;omega) _,e1.set 1 _,?_,(J4 H9),(H9.out.1.bel.setCell (by show W.heap.size<=q+1;omega) _).setCell (by show W.heap.size<=q+1;omega) _,hqw⟩,?_,.inl ⟨rfl,rfl,by omega⟩⟩
       ·rw [<-(Jz2 HK)]
        exact ((J3 H9).set (Qdo H9.out.1.best) 0 _).set (Qdo e1) 1 _
       ·rw [Qmn (J3 HST) HK.out.1 (by rw [(J2 HST).1,<-(J2 HK)];exact h),<-(J2 HK)]
      have HU:Hid (¬(Er≠0\/S<S')->BOk s zs (j+1) B S xs Aa Er):=by
       intro h;refine ⟨?_,(J2 HST).2⟩
       rw [Qmh (J3 HST) (by rw [(J2 HST).1,<-(J2 HK)];exact λ h'=>h h'.2),(J2 HST).1]
      by_cases hEr:Er=0
      ·have hB0:decide (B<0)=false:=by
        rcases (J2 HST).2 with ⟨_,h1,h2⟩ | ⟨_,_,_,h1,_⟩
        ·simp;omega
        ·omega
       by_cases hSl:S<S'
       ·have hSl':decide (S<S')=true:=by simp [hSl]
        have HR2:Hid (LdSt q W ((W9.setCell ⟨q+1,0,none⟩ (.int .u64 S')).setCell ⟨q+1,1,none⟩ (.slice A' n' C')) S' A' n' C' (Qaw z.1)/\BOk s zs (j+1) (j:Int) S' (Qaw z.1) (j:Int) 0):=HT.out (.inr hSl);clear hSl HT HU hEr;go_wp2
        go_roundw
        case rel=>exact ⟨j+1,j,S',j,0,Qaw z.1,A',n',C',by simp,rfl,by omega,HR2.out.2,HR2.out.1⟩
        case measure=>simp [intOf];omega
       ·have hSl':decide (S<S')=false:=by simp;omega
        have HR2:Hid (LdSt q W W9 S A N C xs/\BOk s zs (j+1) B S xs Aa Er):=⟨H9.out.1,HU.out (by simp [hEr];omega)⟩
        clear HT HU hSl hEr;go_wp2
        go_roundw
        case rel=>exact ⟨j+1,B,S,Aa,Er,xs,A,N,C,by simp,rfl,by omega,HR2.out.2,HR2.out.1⟩
        case measure=>simp [intOf];omega
      ·have hB0:decide (B<0)=true:=by
        rcases (J2 HST).2 with ⟨h1,_,_⟩ | ⟨_,_,_,_,h1⟩
        ·exact absurd h1 hEr
        ·simp;omega
       have HR2:Hid (LdSt q W ((W9.setCell ⟨q+1,0,none⟩ (.int .u64 S')).setCell ⟨q+1,1,none⟩ (.slice A' n' C')) S' A' n' C' (Qaw z.1)/\BOk s zs (j+1) (j:Int) S' (Qaw z.1) (j:Int) 0):=HT.out (.inl hEr);clear hEr HT HU;go_wp2
       go_roundw
       case rel=>exact ⟨j+1,j,S',j,0,Qaw z.1,A',n',C',by simp,rfl,by omega,HR2.out.2,HR2.out.1⟩
       case measure=>simp [intOf];omega
     ·have hE1:E'=141:=by rw [HSE.out.2];unfold dkE;rw [if_neg hK]
      have HR2:Hid (LdSt q W W9 S A N C xs/\BOk s zs (j+1) B S xs Aa Er):=⟨H9.out.1,by rw [Qmh (J3 HST) (λ h=>hK h.1),(J2 HST).1],(J2 HST).2⟩
      clear hK;subst hE1;go_wp2
      go_roundw
      case rel=>exact ⟨j+1,B,S,Aa,Er,xs,A,N,C,by simp,rfl,by omega,HR2.out.2,HR2.out.1⟩
      case measure=>simp [intOf];omega
  ·obtain rfl:j=2:=by omega
   have k0:wr.cell? ⟨q+1,0,none⟩=some (.int .u64 S):=st.best.cell 0;have k1:wr.cell? ⟨q+1,1,none⟩=some (.slice A N C):=st.best.cell 1;have d0:wr.cell? ⟨q,0,none⟩=some (.int .u64 0):=st.res.cell 0;have d1:wr.cell? ⟨q,1,none⟩=some (.slice none 0 0):=st.res.cell 1;have z0:=st.res.frozen 0;have z1:=st.res.frozen 1;rcases hbest.2 with ⟨hEr,hB,hA0⟩ | ⟨hS,hxs,hAa,hEr,hB⟩
   ·have hB0:decide (B<0)=false:=by simp;omega
    have HZ:Hid (Blk ((wr.setCell ⟨q,0,none⟩ (.int .u64 S)).setCell ⟨q,1,none⟩ (.slice A N C)) q [.int .u64 S,.slice A N C] 82/\Qj4 .i64 W s zs (.returned (.tuple #[.agg #[.int .u64 S,.slice A N C],.int .i64 B,.int .i64 0])) ((wr.setCell ⟨q,0,none⟩ (.int .u64 S)).setCell ⟨q,1,none⟩ (.slice A N C))):=by
     have e1:Blk (wr.setCell ⟨q,0,none⟩ (.int .u64 S)) q [.int .u64 S,.slice none 0 0] 82:=st.res.set 0 _;have hqw:=(J3 H)
     refine ⟨e1.set 1 _,A,N,C,by rw [hbest.1,hB,hEr],by rw [hbest.1];exact (st.kin.set (Qdo st.res) 0 _).set (Qdo e1) 1 _,st.cap,(st.bel.setCell (by show W.heap.size<=q;omega) _).setCell (by show W.heap.size<=q;omega) _⟩
    clear st hbest hEr hB hA0;go_wp2
    exact bodyPost_ret (Qdt (p:=2) (u:=3) (v:=4) (ty:=82) rfl _ _ q _ _ _ rfl HZ.out.1 Tryz.underlying82 rfl Tryz.info_state _ _ rfl rfl) rfl HZ.out.2
   ·have hB0:decide (B<0)=true:=by simp;omega
    have HZ:Hid (Blk ((wr.setCell ⟨q,0,none⟩ (.int .u64 0)).setCell ⟨q,1,none⟩ (.slice none 0 0)) q [.int .u64 0,.slice none 0 0] 82/\Qj4 .i64 W s zs (.returned (.tuple #[.agg #[.int .u64 0,.slice none 0 0],.int .i64 0,.int .i64 142])) ((wr.setCell ⟨q,0,none⟩ (.int .u64 0)).setCell ⟨q,1,none⟩ (.slice none 0 0))):=by
     have e1:Blk (wr.setCell ⟨q,0,none⟩ (.int .u64 0)) q [.int .u64 0,.slice none 0 0] 82:=st.res.set 0 _;have hqw:=(J3 H)
     refine ⟨e1.set 1 _,none,0,0,by rw [hbest.1,hS,hAa,hEr],by rw [hbest.1,hxs];exact Qfa _,Nat.le_refl _,(st.bel.setCell (by show W.heap.size<=q;omega) _).setCell (by show W.heap.size<=q;omega) _⟩
    clear st hbest hEr hB hS hxs hAa;go_wp2
    exact bodyPost_ret (Qdt (p:=2) (u:=3) (v:=4) (ty:=82) rfl _ _ q _ _ _ rfl HZ.out.1 Tryz.underlying82 rfl Tryz.info_state _ _ rfl rfl) rfl HZ.out.2
section
theorem Ql1 {S:Nat}:∀{bs:List (List Int)},(∀D∈bs,D.length=S)->cutW S bs=bs
 | [],_=>rfl
 | D :: bs,h=>by
  have ih:=Ql1 (bs:=bs) (λ E hE=>h E (List.mem_cons_of_mem _ hE));have hD:=h D (List.mem_cons_self ..);simp only [cutW] at ih ⊢
  rw [List.takeWhile_cons,hD];simp [ih]
theorem ZsAt.nil (O:Nat->Prop) (W:World):ZsAt O W (.slice none 0 0) []:=⟨[],World.ownsRow_nil W 0 91 2,(λ r h=>by cases h),rfl,(λ i u z h=>by simp at h),(λ i j u v r h=>by simp at h),by simp⟩
theorem ZsAt.slice {O:Nat->Prop} {W:World} {v:Value} {zs:List Zn} (h:ZsAt O W v zs):∃a c,v=.slice a zs.length c:=by
 obtain ⟨vs,a,_⟩:=h;exact Qam a
theorem ZsAt.under {O:Nat->Prop} {W W':World} {v:Value} {zs:List Zn} (h:ZsAt O W v zs) (hb:Below W.heap.size W W'):ZsAt O W' v zs:=h.out (Qab Non hb) (λ _ _ e=>e)
theorem Qp9 {O:Nat->Prop} {W0 W:World} {v u:Value} {zs:List Zn} {bs:List (List Int)} {d:Int} (h0:ZsAt O W0 v zs) (hb0:Below W0.heap.size W0 W) (hr:RowAt (λ x=>W0.heap.size<=x) W u bs) (hu:u.oneCell'=true) (hl:zs.length+1<=1000) (hmO:∀x,W0.heap.size<=x->O x) :
  ∃a' c' w',(Builtin.append_ #[24,24] 24 #[v,.slice (some ⟨W.heap.size,0,none⟩) 1 1]).run prog (W.alloc (.cells #[u,.int .i64 d] 91))=.ok (.slice a' (zs.length+1) c') w'/\
   ZsAt O w' (.slice a' (zs.length+1) c') (zs ++ [(bs,d)])/\(W.alloc (.cells #[u,.int .i64 d] 91)).grownBy w' v.ownBlock:=by
 obtain ⟨vs,q1,r2,r3,q4,r5,r6⟩:=h0;have hm0:=hb0.size;have ho0:=Qab Non hb0;have r1:=ho0.own q1 (λ _ _ e=>e);have r4:∀(i:Nat) (u:Value) (z:Zn),vs[i]?=some u->zs[i]?=some z->RowAt O W u z.1:=λ i u z h1 h2=>(q4 i u z h1 h2).out ho0 (λ _ _ e=>e) (λ _ _ _ _ e=>e)
 obtain ⟨uv,u1,u2,u3,u4⟩:=id hr;have hb:Below W.heap.size W (W.alloc (.cells #[u,.int .i64 d] 91)):=(Below.refl _ _).alloc (Nat.le_refl _) _;have hbk:Blk (W.alloc (.cells #[u,.int .i64 d] 91)) W.heap.size [u,.int .i64 d] 91:=Blk.new' rfl rfl;have hA:=Qde (t:=24) (ty:=24) Tryz.underlying24 Tryz.zero_zone rfl (by decide) (by decide) (r1.alloc (.cells #[u,.int .i64 d] 91)) ⟨W.heap.size,0,none⟩ 1 1 [u,.int .i64 d] rfl (by
  intro j x hj;rw [Addr.add_mid,Nat.zero_add,hbk.cell];exact hj) (by intro x hx;simp at hx;rcases hx with rfl | rfl;exact hu;rfl) (by omega)
 obtain ⟨v',w',h2,h3,h4,h5⟩:=hA;obtain ⟨a',c',rfl⟩:=Qam h3;have hsz:=h4.size;simp at hsz
 have hkeep:∀{O':Nat->Prop} {y:Value} {cs:List (List Int)},RowAt O' W y cs->RowAt O' w' y cs:=by
  intro O' y cs hy;have hy1:=hy.out (Qab Non hb) (λ _ _ e=>e) (λ _ _ _ _ e=>e);obtain ⟨yv,y1,_⟩:=id hy1;refine hy1.out (Qew h4) (λ r e1 e2=>?_) (λ c cur _ hc e=>?_)
  ·obtain ⟨cur,hc⟩:=Qaz y1 e1
   obtain ⟨cur',hc'⟩:=Qaz (r1.alloc _) e2;rw [hc] at hc';cases hc'
  ·obtain ⟨cur',hc'⟩:=Qaz (r1.alloc (.cells #[u,.int .i64 d] 91)) e
   rw [hc] at hc';cases hc'
 refine ⟨a',c',w',h2,⟨vs ++ [u],?_,?_,by simp [r3],λ i y z e1 e2=>?_,λ i j y x r e1 e2 s1 s2=>?_,by simp;omega⟩,h4⟩
 ·rw [<-Qim vs zs u (bs,d) r3];simpa using h3
 ·intro r hr
  rcases h5 with h5 | h5
  ·rw [h5] at hr;exact r2 r hr
  ·have:=h5 r hr;simp at this;exact hmO r (by omega)
 ·by_cases hlt:i<zs.length
  ·rw [List.getElem?_append_left (by omega)] at e1
   rw [List.getElem?_append_left hlt] at e2;exact hkeep (r4 i y z e1 e2)
  ·have hi:i=zs.length:=by have:=(List.getElem?_eq_some_iff.1 e2).1;simp at this;omega
   subst hi;simp at e2
   rw [<-r3] at e1;simp at e1
   subst e1;subst e2;exact (hkeep hr).mono (λ x hx _=>hmO x hx)
 ·have hnew:∀(i:Nat) (y:Value) (r:Nat),vs[i]?=some y->y.ownBlock=some r->u.ownBlock=some r->False:=by
   intro i y r hy e1 e2;have hlt:i<zs.length:=by rw [<-r3];exact (List.getElem?_eq_some_iff.1 hy).1
   obtain ⟨_,y1,_⟩:=q4 i y zs[i] hy (by simp [hlt]);have:=(y1.lt r e1).2;have:=u2 r e2;omega
  by_cases hi:i<vs.length
  ·rw [List.getElem?_append_left hi] at e1
   by_cases hj:j<vs.length
   ·rw [List.getElem?_append_left hj] at e2
    exact r5 i j y x r e1 e2 s1 s2
   ·have hj':j=vs.length:=by have:=(List.getElem?_eq_some_iff.1 e2).1;simp at this;omega
    subst hj';simp at e2;subst e2
    exact (hnew i y r e1 s1 s2).elim
  ·have hi':i=vs.length:=by have:=(List.getElem?_eq_some_iff.1 e1).1;simp at this;omega
   subst hi';simp at e1;subst e1
   by_cases hj:j<vs.length
   ·rw [List.getElem?_append_left hj] at e2
    exact (hnew j x r e2 s2 s1).elim
   ·have:=(List.getElem?_eq_some_iff.1 e2).1;simp at this;omega
def Qmq (W:World) (zs:List Zn) (e:Ending) (w':World):Prop:=∃v,e=.returned v/\ZsAt (λ x=>W.heap.size<=x) w' v zs/\Below W.heap.size W w'
section
variable {O:Nat->Prop} {W:World} {p:Nat} {s:Sh} {zs:List Zn}
set_option maxHeartbeats 4000000 in
theorem Qzd (hd:Dv 98 O W p s zs) (hw:Wf s zs):Calls prog 22 #[.pointer (some ⟨p,0,none⟩)] W (Qmq W zs):=by
 obtain ⟨g,cz,vs,hv⟩:=hd;have c4:=hv.pcell.2.2.2.2;have hsm:=hv.small;have hsb:=Qbd hw.right.2.2.2.2.1;obtain ⟨S,hS⟩:∃S:Nat,s.b=S:=⟨s.b.toNat,by omega⟩
 have HV:=Jh3 hv hw hS;obtain ⟨i0,hi,hz0,hz1,hz2⟩:=info_parts Tryz.zero_zone;obtain ⟨w1,r1,o1,g1⟩:=run_make_own (P:=prog) W W.heap.size 24 91 i0 _ 2 Tryz.underlying24 hi hz0 hz1 .i64 .i64 zs.length (by rw [hz2];omega) (by unfold maxLen;omega) (Nat.le_refl _);have hb1:Below W.heap.size W w1:=(Below.refl _ _).grown g1 (Nat.le_refl _) (λ k e=>by cases e);have c41:=(hb1.cell (Qaa c4)).trans c4;have HZ:Hid (ZsAt (λ x=>W.heap.size<=x) w1 (.slice (some ⟨W.heap.size,0,none⟩) 0 zs.length) []/\Below W.heap.size W w1):=⟨⟨[],Qbh o1,(λ r e=>by cases e;exact Nat.le_refl _),rfl,(λ i u z h=>by simp at h),(λ i j u v r h=>by simp at h),by simp⟩,hb1⟩
 clear hv hw hi hz0 hz1 hz2 o1 g1 hb1;generalize hN:zs.length=N at *;go_enter func22,ntmps22
 go_wp2
 go_loopw [3,17] (λ o x wr=>∃i:Nat,x=.int .i64 i/\i<=N/\Below W.heap.size W wr/\ZsAt (λ x=>W.heap.size<=x) wr o (zs.take i)) (λ o x wr=>N - (intOf x).toNat)
 case atStart=>exact ⟨0,rfl,Nat.zero_le _,HZ.out.2,by simpa using HZ.out.1⟩
 case round=>
  obtain ⟨i,rfl,hi,hb,ho⟩:=hrel;have hl:(zs.take i).length=i:=by simp;omega
  obtain ⟨oa,oc,hoe⟩:=ho.slice;rw [hl] at hoe;subst hoe;rcases Nat.lt_or_ge i N with hlt | hge
  ·obtain ⟨z,hz⟩:∃z,zs[i]?=some z:=⟨zs[i]'(by omega),by simp⟩
   obtain ⟨q,hq⟩:∃q,q=wr.heap.size:=⟨_,rfl⟩
   obtain ⟨ua,uc,hu,hr,z0,z1⟩:=(HV.out.1.under hb).at hz;have hi':(i:Int)<(N:Int):=by omega
   have hw1:IntKind.i64.wrap ((i:Int)+1)=(i:Int)+1:=by rw [IntKind.wrap_i64];omega
   have HI:=Jh5 hz hb ho hq hu;have hX:Blk (wr.alloc (.cells #[.slice ua z.1.length uc,.int .i64 z.2] 91)) q [.slice ua z.1.length uc,.int .i64 z.2] 91:=Blk.new' hq.symm rfl;have HX:Hid (Blk (wr.alloc (.cells #[.slice ua z.1.length uc,.int .i64 z.2] 91)) q [.slice ua z.1.length uc,.int .i64 z.2] 91/\Below wr.heap.size wr (wr.alloc (.cells #[.slice ua z.1.length uc,.int .i64 z.2] 91))):=⟨hX,(Below.refl _ _).alloc (Nat.le_refl _) _⟩
   clear hX hz hb ho hr hu c4 c41;go_upto_region 5 with fail
   rw [<-hq];generalize hVV:World.alloc _ _=V at HX ⊢;clear hVV hq z0 z1;have hvV:=HV.out.1.under ((J2 HI).trans (HX.out.2.mono (J2 HI).size));have p2:=hvV.pcell.2.2.1;rw [(Jz2 HV)] at p2;have x0:V.cell? ⟨q,0,none⟩=some (.slice ua z.1.length uc):=HX.out.1.cell 0;have x1:V.cell? ⟨q,1,none⟩=some (.int .i64 z.2):=HX.out.1.cell 1;have hcw:cutW S z.1=z.1:=Ql1 (λ D hD=>by have:=((J2 HV).zone z (List.mem_of_getElem? HI.out.1)).2.2.2 D hD;have:=(Jz2 HV);omega);have HC:Hid (Calls prog 41 #[.agg #[.slice ua z.1.length uc,.int .i64 z.2],.int .i64 S] V.drew (Qvm V.drew z.1 S z.2)):=Qm5 ua z.1.length uc S z.2 z.1 V.drew (((hvV.rows i _ z (Jz4 HI) HI.out.1).bsin ((J2 HV).short z (List.mem_of_getElem? HI.out.1))).below (Below.refl _ _).drew) (by omega) (by omega);have HA:Hid (∀w3 va vc,RowAt (λ x=>V.heap.size<=x) w3 (.slice va z.1.length vc) z.1->Below V.heap.size V w3->∃a' c' w',(Builtin.append_ #[24,24] 24 #[.slice oa i oc,.slice (some ⟨w3.heap.size,0,none⟩) 1 1]).run prog (w3.alloc (.cells #[.slice va z.1.length vc,.int .i64 z.2] 91))=.ok (.slice a' (i+1) c') w'/\ZsAt (λ x=>W.heap.size<=x) w' (.slice a' (i+1) c') (zs.take (i+1))/\Below W.heap.size W w'):=by
    intro w3 va vc h1 h2;have hbV:=(J2 HI).trans (HX.out.2.mono (J2 HI).size);have:=Qp9 (d:=z.2) ((J3 HI).under HX.out.2) h2 h1 rfl (by rw [hl];omega) (λ x hx=>by have:=hbV.size;omega);rw [hl] at this;obtain ⟨a',c',w',e1,e2,e3⟩:=this;refine ⟨a',c',w',e1,by rw [Qao HI.out.1];exact e2,?_⟩
    have hsz:=h2.size;have hsz2:=hbV.size;refine ((hbV.trans (h2.mono hsz2)).alloc (by omega) _).grown e3 (by simp;omega) (λ k e=>?_)
    obtain ⟨vs9,q1,q2,_⟩:=(J3 HI)
    exact q2 k e
   have HW:=Jh1 hcw;clear hvV hcw;refine wp_region_noPanic ?_
   go_region_law (first
    | (go_simp;go_at_call 41;refine HC.out.mono ?_;rintro e w3 ⟨v3,rfl,r3,b3⟩;rw [HW.out] at r3;obtain ⟨va,vc,hv3⟩:=r3.slice;subst hv3;obtain ⟨a9,c9,w9,e9,z9,b9⟩:=HA.out w3 va vc r3 ⟨b3.os,b3.tape,b3.output,b3.size,b3.block⟩)
    | (refine Qbf rfl (.tmp 21) (.tmp 29) 24 24 rfl _ _ rfl rfl _ _ e9 ?_))
   all_goals
    have HF:=Jh2 z9 b9;clear e9 z9 b9 r3 b3 x0 x1 p2;refine NoPanic.normal ?_
    go_wp2
    go_roundw
    case rel=>exact ⟨i+1,by simp,by omega,HF.out.2,HF.out.1⟩
    case measure=>simp [intOf];omega
  ·obtain rfl:i=N:=by omega
   have HS:Hid (ZsAt (λ x=>W.heap.size<=x) wr (.slice oa i oc) zs/\Below W.heap.size W wr):=⟨by rw [List.take_of_length_le (by omega)] at ho;exact ho,hb⟩
   clear hb ho c4 c41;go_wp2
   go_ret
   exact ⟨_,rfl,HS.out.1,HS.out.2⟩
end
end
section
structure LtSt (w0:World) (qb:Nat) (d:Int) (bs:List (List Int)) (k:Nat) (v:Value) (W:World):Prop where
 box:Blk W qb [v,.int .i64 d] 91
 row:RowAt (λ x=>qb<=x) W v (bs.take k)
 bel:Below qb w0 W
theorem LtSt.app {w0 W w3:World} {qb:Nat} {d:Int} {bs:List (List Int)} {k:Nat} {v h:Value} {D:List Int} (st:LtSt w0 qb d bs k v W) (hD:bs[k]?=some D) (hk:k+1<=100000) (hb:BkAt (λ x=>W.heap.size<=x) w3 h D) (hbl:Below W.heap.size W w3) (ho:h.oneCell'=true) :
  ∃a' c' w5,(Builtin.append_ #[74,74] 74 #[v,.slice (some ⟨w3.heap.size,0,none⟩) 1 1]).run prog (w3.alloc (.cells #[h] 71))=.ok (.slice a' (k+1) c') w5/\w5.cell? ⟨qb,0,none⟩=some v/\w5.frozen? ⟨qb,0,none⟩=false/\LtSt w0 qb d bs (k+1) (.slice a' (k+1) c') (w5.setCell ⟨qb,0,none⟩ (.slice a' (k+1) c')):=by
 have hlt:=st.box.lt;have hsz:=hbl.size;have hl:(bs.take k).length=k:=by have:=(List.getElem?_eq_some_iff.1 hD).1;simp;omega
 have row3:=st.row.out (Qab Non hbl) (λ _ _ e=>e) (λ _ _ _ _ e=>e);have bk3:=hb.mono (O':=λ x=>qb<=x) (λ x hx _=>by omega);have:=Qep row3 bk3 ho (by rw [hl];exact hk) (λ x hx=>by omega);rw [hl] at this;obtain ⟨a',c',w5,r5,row5,g5,f5⟩:=this;obtain ⟨uv,u1,u2,_⟩:=id row3;have box3:=(Qab Non hbl).blk st.box id;have box5:Blk w5 qb [v,.int .i64 d] 91:=(box3.alloc _).grown (by decide) (u1.alloc _) g5;refine ⟨a',c',w5,r5,box5.cell 0,box5.frozen 0,⟨box5.set 0 _,?_,?_⟩⟩
 ·rw [Qao hD]
  exact Qdh box5 (by decide) (by decide) 0 _ row5
 ·refine (((st.bel.trans (hbl.mono (by omega))).alloc (by omega) _).grown g5 (by simp;omega) (λ j e=>u2 j e)).setCell (p:=⟨qb,0,none⟩) (Nat.le_refl _) _
set_option maxHeartbeats 4000000 in
theorem Qrj (a:Option Addr) (n c:Nat) (zs:List Zn) (W:World) (hx:ZsIn W a n zs):Calls prog 43 #[.slice a n c] W (Qmq W zs):=by
 have hn:n<=1000:=hx.2.1;have H:=Jh1 hx;clear hx;go_enter func43,ntmps43
 go_wp2
 go_loopw [3,4] (λ o x wr=>∃i:Nat,x=.int .i64 i/\i<=n/\Below W.heap.size W wr/\ZsAt (λ x=>W.heap.size<=x) wr o (zs.take i)) (λ o x wr=>n - (intOf x).toNat)
 case atStart=>exact ⟨0,rfl,Nat.zero_le _,Below.refl _ _,by simpa using ZsAt.nil _ _⟩
 case round=>
  obtain ⟨i,rfl,hi,hb,ho⟩:=hrel;obtain ⟨w0,hw0⟩:∃w0,w0=wr:=⟨_,rfl⟩
  subst hw0;have hl:(zs.take i).length=i:=by have:=H.out.1;simp;omega
  obtain ⟨oa,oc,hoe⟩:=ho.slice;rw [hl] at hoe;subst hoe;rcases Nat.lt_or_ge i n with hlt | hge
  ·obtain ⟨z,hz⟩:∃z,zs[i]?=some z:=⟨zs[i]'(by have:=H.out.1;omega),by simp⟩
   obtain ⟨qb,hq⟩:∃q,q=w0.heap.size:=⟨_,rfl⟩
   obtain ⟨b,off,rfl,hc⟩:=(H.out.below hb).2.2.resolve_left (by omega);obtain ⟨A,L,C,z0,z1,hbs⟩:=hc i z hz;have hi':(i:Int)<(n:Int):=by omega
   have hw1:IntKind.i64.wrap ((i:Int)+1)=(i:Int)+1:=by rw [IntKind.wrap_i64];omega
   have hLb:=hbs.2.1;have HI:=Jh5 hz hb ho hq hbs;have HX:Hid (LtSt w0 qb z.2 z.1 0 (.slice none 0 0) (w0.alloc (.cells #[.slice none 0 0,.int .i64 z.2] 91))):=⟨Blk.new' hq.symm rfl,by simpa using RowAt.nil _ _,(Below.refl _ _).alloc (by omega) _⟩
   clear hz hb ho hbs hc;go_upto_region 6 with fail
   rw [<-hq];generalize hVV:World.alloc _ _=V at HX ⊢;clear hVV hq;go_wp2
   go_loopw [6] (λ x wr2=>∃k:Nat,x=.int .i64 k/\k<=L/\∃v,LtSt w0 qb z.2 z.1 k v wr2) (λ x wr2=>L - (intOf x).toNat)
   case atStart=>exact ⟨0,rfl,Nat.zero_le _,_,HX.out⟩
   case round=>
    obtain ⟨k,rfl,hk,v,st⟩:=hrel;have hbw:Below w0.heap.size w0 wr:=by rw [<-(J4 HI)];exact st.bel
    have y0:=(hbw.cell (Qaa z0)).trans z0;have hv9:=st.row.slice;have hlk:(z.1.take k).length=k:=by have:=(J5 HI);simp;omega
    obtain ⟨va,vc,hv⟩:=hv9;rw [hlk] at hv;subst hv;have x0:wr.cell? ⟨qb,0,none⟩=some (.slice va k vc):=st.box.cell 0;rcases Nat.lt_or_ge k L with hkl | hkl
    ·obtain ⟨D,hD⟩:∃D,z.1[k]?=some D:=⟨z.1[k]'(by have:=(J5 HI);omega),by simp⟩
     obtain ⟨b2,off2,rfl,hc2⟩:=((Jz4 HI).below hbw).2.2.resolve_left (by omega);obtain ⟨v2,y2,A2,L2,C2,rfl,k2,k3,k4,k5⟩:=hc2 k D hD;have hk':(k:Int)<(L:Int):=by omega
     have hw2:IntKind.i64.wrap ((k:Int)+1)=(k:Int)+1:=by rw [IntKind.wrap_i64];omega
     have HC:Hid (Calls prog 94 #[.slice A2 L2 C2] wr.drew (Qv2 wr.drew D)):=Qlv A2 L2 C2 D wr.drew (k2.below (Below.refl _ _).drew) k3 (by omega);have HA:Hid (∀w3 h,BkAt (λ x=>wr.heap.size<=x) w3 h D->Below wr.heap.size wr w3->h.oneCell'=true->∃a' c' w5,(Builtin.append_ #[74,74] 74 #[.slice va k vc,.slice (some ⟨w3.heap.size,0,none⟩) 1 1]).run prog (w3.alloc (.cells #[h] 71))=.ok (.slice a' (k+1) c') w5/\w5.cell? ⟨qb,0,none⟩=some (.slice va k vc)/\w5.frozen? ⟨qb,0,none⟩=false/\LtSt w0 qb z.2 z.1 (k+1) (.slice a' (k+1) c') (w5.setCell ⟨qb,0,none⟩ (.slice a' (k+1) c'))):=λ w3 h e1 e2 e3=>st.app hD (by omega) e1 e2 e3
     have HB:=Jh1 st.box;clear st hbw z0 z1 hc2 k2 k3 k4 k5;go_wp2
     refine wp_region_noPanic ?_
     go_region_law (first
      | (go_simp;go_at_call 94;refine HC.out.mono ?_;rintro e w3 ⟨h3,rfl,bk3,b3⟩;obtain ⟨x3,y3,e3⟩:=Qam bk3.1;subst e3;have b4:Below wr.heap.size wr w3:=⟨b3.os,b3.tape,b3.output,b3.size,b3.block⟩;obtain ⟨a9,c9,w9,e9,m9,f9,s9⟩:=HA.out w3 _ bk3 b4 rfl;have q3:w3.cell? ⟨qb,0,none⟩=some (.slice va k vc):=(b4.cell HB.out.lt).trans x0;have q4:∀o,(w3.alloc o).cell? ⟨qb,0,none⟩=some (.slice va k vc):=λ o=>(((Below.refl w3.heap.size w3).alloc (Nat.le_refl _) o).cell (Qaa q3)).trans q3)
      | (refine Qbf rfl (.tmp 30) (.tmp 40) 74 74 rfl _ _ rfl rfl _ _ e9 ?_))
     all_goals
      have HF:=Jh1 s9;clear e9 m9 f9 s9 bk3 b3 b4 q3 q4;refine NoPanic.normal ?_
      generalize World.setCell _ _ _=V9 at HF ⊢;go_wp2
      go_roundw
      case rel=>exact ⟨k+1,by simp,by omega,_,HF.out⟩
      case measure=>simp [intOf];omega
    ·obtain rfl:k=L:=by omega
     have hA:=Qp9 (u:=.slice va k vc) (d:=z.2) (J3 HI) hbw (by rw [<-(J4 HI)];exact st.row) rfl (by rw [hl];omega) (λ x hx=>by have:=(J2 HI).size;omega);rw [hl] at hA;obtain ⟨a9,c9,w9,e9,z9,g9⟩:=hA;have hfull:z.1.take k=z.1:=List.take_of_length_le (by have:=(J5 HI);omega);rw [hfull] at z9;have x1:wr.cell? ⟨qb,1,none⟩=some (.int .i64 z.2):=st.box.cell 1;have HF:Hid (ZsAt (λ x=>W.heap.size<=x) w9 (.slice a9 (i+1) c9) (zs.take (i+1))/\Below W.heap.size W w9):=by
      refine ⟨by rw [Qao HI.out.1];exact z9,?_⟩
      have hs:=(J2 HI).size;have hs2:=hbw.size;refine (((J2 HI).trans (hbw.mono hs)).alloc (by omega) _).grown g9 (by simp;omega) (λ k e=>?_)
      obtain ⟨vs9,q1,q2,_⟩:=(J3 HI)
      exact q2 k e
     have HR:=Jh1 e9;clear e9 z9 g9 hfull st hbw z0 z1;go_wp2_with (at_builtin;refine Qag rfl (.tmp 43) (.tmp 45) 24 24 rfl _ _ rfl rfl _ _ HR.out ?_)
     go_roundw
     case rel=>exact ⟨i+1,by simp,by omega,HF.out.2,HF.out.1⟩
     case measure=>simp [intOf];omega
  ·obtain rfl:i=n:=by omega
   have HS:Hid (ZsAt (λ x=>W.heap.size<=x) w0 (.slice oa i oc) zs/\Below W.heap.size W w0):=⟨by rw [List.take_of_length_le (by have:=H.out.1;omega)] at ho;exact ho,hb⟩
   clear hb ho;go_wp2
   go_ret
   exact ⟨_,rfl,HS.out.1,HS.out.2⟩
section
variable {O:Nat->Prop} {W:World} {p:Nat} {s:Sh} {zs:List Zn}
theorem Qub (hd:Dv 101 O W p s zs) (hs:Qv6 zs):Calls prog 174 #[.pointer (some ⟨p,0,none⟩)] W (Qmq W zs):=by
 obtain ⟨g,cz,vs,hv⟩:=hd;have c4:=hv.pcell.2.2.2.2;have HC:Hid (Calls prog 43 #[.slice (some ⟨g,0,none⟩) zs.length cz] W (Qmq W zs)):=Qrj _ _ _ zs W (hv.all.zsin hs);clear hv;go_enter func174,ntmps174
 go_wp2_with (go_at_call 43;refine HC.out.mono ?_;rintro e w3 ⟨v,rfl,hz,hb⟩)
 go_ret
 exact ⟨v,rfl,hz,hb⟩
end
end

end Go.Proofs.YtcdnjeiamihhbaaGreat
namespace Go.Proofs.YtcdnjeiamihhbaaGreat
open Go.RowKit
theorem Qgz {b:Int} (h:¬b∈PowR):Qbu b=0:=by unfold Qbu;rw [if_neg h]
set_option maxHeartbeats 1000000 in
theorem Qu0 (b:Int) (w:World):Calls prog 77 #[.int .i64 b] w λ e w'=>e=.returned (.int .i64 (Qbu b))/\w'=w:=by
 obtain ⟨R,hR⟩:∃R,R=Qbu b:=⟨_,rfl⟩
 rw [<-hR];by_cases h1:b<64
 ·have hf:R=0:=by rw [hR];exact Qgz (λ h=>by have:=Qar h;omega)
  clear hR;subst hf;go_enter func77,ntmps77
  go_wp2
  go_ret
  exact ⟨rfl,rfl⟩
 ·have h1':64<=b:=by omega
  by_cases h2:4096<b
  ·have hf:R=0:=by rw [hR];exact Qgz (λ h=>by have:=Qar h;omega)
   clear hR;subst hf;clear h1;go_enter func77,ntmps77
   go_wp2
   go_ret
   exact ⟨rfl,rfl⟩
  ·have h2':b<=4096:=by omega
   clear h1 h2;have hw:IntKind.i64.wrap (b - 1)=b - 1:=by rw [IntKind.wrap_i64];omega
   have hw2:IntKind.i64.wrap (b - 18)=b - 18:=by rw [IntKind.wrap_i64];omega
   have hw3:IntKind.i64.wrap (b - 18 - 1)=b - 18 - 1:=by rw [IntKind.wrap_i64];omega
   by_cases hp:b∈PowR
   ·have hand:=(Ql9 h1' h2').2 hp
    have hf:R=(b - 18 - 1) / 19:=by rw [hR];unfold Qbu;rw [if_pos hp];congr 1;omega
    clear hR hp;subst hf;go_enter func77,ntmps77
    go_wp2
    go_ret
    exact ⟨rfl,rfl⟩
   ·have hand:(bits BinOp.and IntKind.i64 b (b - 1) != 0)=true:=by simp;exact λ h=>hp ((Ql9 h1' h2').1 h)
    have hf:R=0:=by rw [hR];exact Qgz hp
    clear hR hp;subst hf;go_enter func77,ntmps77
    go_wp2
    go_ret
    exact ⟨rfl,rfl⟩
def itL (x:It):List Value:=[.int .u32 x.t,.int .u64 x.b,.int .u8 x.k,.int .u32 x.s,.int .u16 x.e]
set_option maxHeartbeats 1000000 in
theorem Qmx (x:It) (w:World):Calls prog 259 #[.agg (itL x).toArray] w λ e w'=>e=.returned (.bool (decide (Qci x)))/\Below w.heap.size w w':=by
 obtain ⟨t,b,k,s,e⟩:=x;obtain ⟨B,hB⟩:∃B,B=decide (Qci ⟨t,b,k,s,e⟩):=⟨_,rfl⟩
 rw [<-hB];have bw:Hid (∀o,Below w.heap.size w (w.alloc o)):=λ o=>(Below.refl _ _).alloc (Nat.le_refl _) o
 simp only [itL]
 by_cases h1:k=1
 ·subst h1
  have hf:B=decide (e<=4096):=by rw [hB];simp [Qci]
  clear hB;subst hf;go_enter func259,ntmps259
  go_wp2
  go_ret
  exact ⟨rfl,bw.out _⟩
 ·by_cases h2:k=2
  ·subst h2
   clear h1;by_cases h3:s=0
   ·subst h3
    have hf:B=(e == 0):=by rw [hB];simp [Qci];by_cases h:e=0 <;> simp [h]
    clear hB;subst hf;go_enter func259,ntmps259
    go_wp2
    go_ret
    exact ⟨rfl,bw.out _⟩
   ·have hf:B=false:=by rw [hB];simp [Qci,h3]
    clear hB;subst hf;go_enter func259,ntmps259
    go_wp2
    go_ret
    exact ⟨rfl,bw.out _⟩
  ·have hf:B=false:=by rw [hB];simp [Qci,h1,h2]
   clear hB;subst hf;go_enter func259,ntmps259
   go_wp2
   go_ret
   exact ⟨rfl,bw.out _⟩
theorem Qqf (w:World):Calls prog 258 #[] w λ e w'=>e=.returned (.slice (some ⟨w.heap.size,0,none⟩) 4 4)/\w'=w.alloc (.cells #[.int .i64 4,.int .i64 4,.int .i64 8,.int .i64 2] 3):=by
 go_enter func258,ntmps258
 go_wp2
 go_ret
 exact ⟨rfl,rfl⟩
theorem Qlj (w:World):Calls prog 260 #[] w λ e w'=>e=.returned (.slice (some ⟨w.heap.size,0,none⟩) 5 5)/\w'=w.alloc (.cells #[.int .i64 4,.int .i64 8,.int .i64 1,.int .i64 4,.int .i64 2] 3):=by
 go_enter func260,ntmps260
 go_wp2
 go_ret
 exact ⟨rfl,rfl⟩
theorem Qoh {w:World} {g:Nat} (h:w.heap.size=g):NIn .i64 (w.alloc (.cells #[.int .i64 4,.int .i64 4,.int .i64 8,.int .i64 2] 3)) (some ⟨g,0,none⟩) 4 hdW:=Qet 3 h rfl rfl rfl (by omega)
theorem Qn3 {w:World} {g:Nat} (h:w.heap.size=g):NIn .i64 (w.alloc (.cells #[.int .i64 4,.int .i64 8,.int .i64 1,.int .i64 4,.int .i64 2] 3)) (some ⟨g,0,none⟩) 5 itW:=Qet 3 h rfl rfl rfl (by omega)
theorem Qyg {s n:Int} (hs:Qai s) (hn:Qai n):∀z∈hdV s n,Qai z:=by
 intro z hz;simp only [hdV,List.mem_cons,List.not_mem_nil,or_false] at hz
 rcases hz with rfl | rfl | rfl | rfl
 ·unfold Qai;omega
 ·unfold Qai;omega
 ·exact hs
 ·exact hn
theorem Qzx {x:It} (h:x.Fits):∀z∈itV x,Qai z:=by
 obtain ⟨h1,h2,h3,h4,h5⟩:=h;unfold Qas at h1 h4;unfold Qai at h2;unfold Qaf at h3;unfold Qb4 at h5;intro z hz;simp only [itV,List.mem_cons,List.not_mem_nil,or_false] at hz
 unfold Qai;rcases hz with rfl | rfl | rfl | rfl | rfl <;> omega
set_option maxHeartbeats 1000000 in
theorem Qo5 (a:Option Addr) (n c:Nat) (zs:List Int) (w:World) (h:BIn w a n zs):Calls prog 207 #[.slice a n c] w λ e w'=>e=.returned (.int .i64 (Qdl zs:Nat))/\w'=w:=by
 obtain ⟨E,hE⟩:∃E,E=Qdl zs:=⟨_,rfl⟩
 have hat:=Qhh zs;rw [<-hE] at hat ⊢;have hm:=h.2.1;unfold maxLen at hm;have H:=Jh2 h hat;clear h hat hE;go_enter func207,ntmps207
 go_wp2
 go_loopw [3] (λ x wr=>∃i:Nat,x=.int .i64 i/\i<=n/\E<=i/\wr=w) (λ x _=>(intOf x).toNat)
 case atStart=>exact ⟨n,rfl,Nat.le_refl _,by have:=(J2 H);have:=H.out.1.1;omega,rfl⟩
 case round=>
  obtain ⟨i,rfl,hi,hEi,rfl⟩:=hrel;rcases Nat.eq_zero_or_pos i with h0 | hp
  ·obtain rfl:E=0:=by omega
   subst h0;go_wp2
   go_ret
   exact ⟨rfl,rfl⟩
  ·obtain ⟨b,off,rfl,hc⟩:=H.out.1.2.2.2.resolve_left (by omega)
   obtain ⟨j,rfl⟩:∃j,i=j+1:=⟨i - 1,by omega⟩
   have hcj:=hc j (by omega);have hf:=Qij H.out.1.2.2.1 j;obtain ⟨z,hz⟩:∃z,z=zs.getD j 0:=⟨_,rfl⟩
   rw [<-hz] at hcj hf;have HZ:=Jh1 hz;clear hc hz;have hj0:(0:Int)<(j:Int)+1:=by omega
   have hjn:(j:Int)<n:=by omega
   have hw:IntKind.i64.wrap ((j:Int)+1 - 1)=j:=by rw [IntKind.wrap_i64];omega
   by_cases hz0:z=0
   ·subst hz0
    have HE:Hid (E<=j):=by
     show E<=j;rcases (Jz3 H) with h | h
     ·omega
     ·rcases Nat.lt_or_ge j E with h' | h'
      ·obtain rfl:E=j+1:=by omega
       exact (h HZ.out.symm).elim
      ·exact h'
    go_wp2
    go_roundw
    case rel=>exact ⟨j,by go_num,by omega,HE.out,by first | rfl | trivial⟩
    case measure=>simp [intOf]
   ·have hz':(z == 0)=false:=by simp [hz0]
    have HE:Hid (E=j+1):=by
     show E=j+1;rcases Nat.lt_or_ge j E with h' | h'
     ·omega
     ·exact (hz0 (HZ.out.trans ((J3 H) j h'))).elim
    clear hz0;go_wp2
    go_ret
    exact ⟨by rw [HE.out];rfl,rfl⟩
set_option maxHeartbeats 1000000 in
theorem Qrb (b:Int) (w:World):Calls prog 158 #[.int .i64 b] w λ e w'=>e=.returned (.int .i64 (Qbu b))/\w'=w:=by
 obtain ⟨R,hR⟩:∃R,R=Qbu b:=⟨_,rfl⟩
 rw [<-hR];have HR:=Jh1 hR;clear hR;go_enter func158,ntmps158
 go_wp2
 go_loopw [3] (λ x wr=>∃k:Nat,x=.int .i64 (pwR k)/\k<=7/\wr=w/\∀j,j<k->b≠pwR j) (λ x _=>(4097 - intOf x).toNat)
 case atStart=>exact ⟨0,rfl,by omega,rfl,by simp⟩
 case round=>
  obtain ⟨k,rfl,hk,rfl,hno⟩:=hrel;rcases Nat.lt_or_ge k 7 with hlt | hge
  ·obtain ⟨_,p1,p2,p3⟩:=Qp8 ⟨k,hlt⟩
   dsimp only at p1 p2 p3
   obtain ⟨P,hP⟩:∃P,P=pwR k:=⟨_,rfl⟩
   have HP:=Jh3 hP p3 hno;rw [<-hP] at p1 p2 ⊢;have hw:IntKind.i64.wrap (2*P)=2*P:=by rw [IntKind.wrap_i64];omega
   clear hP p3 hno;by_cases hb:P=b
   ·have hf:R=(b - 19) / 19:=by rw [HR.out];unfold Qbu;rw [if_pos (Qmd.2 ⟨k,hlt,by rw [<-HP.out.1,hb]⟩)]
    have hw2:IntKind.i64.wrap (b - 19)=b - 19:=by rw [IntKind.wrap_i64];omega
    clear HR HP hw;subst hb;subst hf;go_wp2
    go_ret
    exact ⟨rfl,rfl⟩
   ·have hb':(P == b)=false:=by simp [hb]
    have HN:=Jh1 hb;clear hb;go_wp2
    go_roundw
    case rel=>
     refine ⟨k+1,by rw [(J2 HP),<-HP.out.1],by omega,by first | rfl | trivial,λ j hj=>?_⟩
     rcases Nat.lt_or_ge j k with h | h
     ·exact (Jz2 HP) j h
     ·obtain rfl:j=k:=by omega
      exact λ e=>HN.out (by rw [HP.out.1,e])
    case measure=>simp [intOf];omega
  ·obtain rfl:k=7:=by omega
   have hf:R=0:=by
    rw [HR.out];exact Qgz (λ h=>by obtain ⟨j,hj,e⟩:=Qmd.1 h;exact hno j hj e)
   clear HR hno;subst hf;have h7:pwR 7=8192:=by decide
   rw [h7];go_wp2
   go_ret
   exact ⟨rfl,rfl⟩
set_option maxHeartbeats 1000000 in
theorem Qze (a:Option Addr) (n c:Nat) (zs:List Int) (w:World) (h:BIn w a n zs):Calls prog 161 #[.slice a n c] w λ e w'=>e=.returned (.int .i64 (Qdl zs:Nat))/\w'=w:=by
 obtain ⟨E,hE⟩:∃E,E=Qdl zs:=⟨_,rfl⟩
 have hat:=Qhh zs;rw [<-hE] at hat ⊢;have hm:=h.2.1;unfold maxLen at hm;have H:=Jh2 h hat;clear h hat hE;go_enter func161,ntmps161
 go_wp2
 go_loopw [3,4] (λ y x wr=>∃i m:Nat,x=.int .i64 i/\y=.int .i64 m/\i<=n/\wr=w/\m<=i/\(∀j,m<=j->j<i->zs.getD j 0=0)/\(m=0\/zs.getD (m - 1) 0≠0)) (λ _ x _=>n - (intOf x).toNat)
 case atStart=>exact ⟨0,0,rfl,rfl,Nat.zero_le _,rfl,Nat.le_refl _,by intro j _ h;omega,.inl rfl⟩
 case round=>
  obtain ⟨i,m,rfl,rfl,hi,rfl,hmi,h0,h1⟩:=hrel;have HI:=Jh2 h0 h1;clear h0 h1;rcases Nat.lt_or_ge i n with hlt | hge
  ·obtain ⟨b,off,rfl,hc⟩:=H.out.1.2.2.2.resolve_left (by omega)
   have hcj:=hc i (by omega);obtain ⟨z,hz⟩:∃z,z=zs.getD i 0:=⟨_,rfl⟩
   rw [<-hz] at hcj;have HZ:=Jh1 hz;clear hc hz;have hi':(i:Int)<n:=by omega
   by_cases hz0:z=0
   ·subst hz0
    go_wp2
    go_roundw
    case rel=>
     refine ⟨i+1,m,by go_num,rfl,by omega,by first | rfl | trivial,by omega,λ j h2 h3=>?_,HI.out.2⟩
     rcases Nat.lt_or_ge j i with h | h
     ·exact HI.out.1 j h2 h
     ·obtain rfl:j=i:=by omega
      exact HZ.out.symm
    case measure=>simp [intOf];omega
   ·have hz':(z != 0)=true:=by simp [hz0]
    have HN:=Jh1 hz0;clear hz0;go_wp2
    go_roundw
    case rel=>exact ⟨i+1,i+1,by go_num,by go_num,by omega,by first | rfl | trivial,by omega,by intro j h2 h3;omega,.inr (by simp only [Nat.add_sub_cancel];rw [<-HZ.out];exact HN.out)⟩
    case measure=>simp [intOf];omega
  ·obtain rfl:i=n:=by omega
   have HE:Hid (m=E):=Qwv ⟨by rw [H.out.1.1];exact hmi,λ j hj=>by
    rcases Nat.lt_or_ge j i with h | h
    ·exact HI.out.1 j hj h
    ·simp [List.getD,List.getElem?_eq_none (by rw [H.out.1.1];exact h:zs.length<=j)],HI.out.2⟩ H.out.2
   have he:=HE.out;clear HE;subst he;go_wp2
   go_ret
   exact ⟨rfl,rfl⟩
structure Pg (w:World) (g pb N k:Nat) (L:List Int):Prop where
 hp:Blk w g [.slice (some ⟨pb,0,none⟩) N N,.int .i64 (k:Nat)] 322
 hb:Blk w pb (u8s L) 5
 len:L.length=N
 ne:g≠pb
theorem Pg.below {w w':World} {g pb N k:Nat} {L:List Int} (h:Pg w g pb N k L) (hb:Below w.heap.size w w'):Pg w' g pb N k L:=⟨h.hp.below hb h.hp.lt,h.hb.below hb h.hb.lt,h.len,h.ne⟩
theorem Pg.drew {w:World} {g pb N k:Nat} {L:List Int} (h:Pg w g pb N k L):Pg w.drew g pb N k L:=⟨h.hp.drew,h.hb.drew,h.len,h.ne⟩
def PutE (w:World) (B g pb N k:Nat) (L P:List Int) (e:Ending) (w':World):Prop:=e=.returned (.tuple #[])/\Pg w' g pb N (k+P.length) (splice L k P)/\Below B w w'/\∀j,j<w.heap.size->j≠g->j≠pb->w'.heap[j]?=w.heap[j]?
theorem Q2p {w w2 w4:World} {B g pb N k:Nat} {L P:List Int} (h:Pg w g pb N k L) (hk:k+P.length<=N) (hBp:B<=pb) (hBg:B<=g) (p3:Pg w2 g pb N k L) (b3:Below w.heap.size w w2) (hg4:Blk w4 pb (splice (u8s L) k (u8s P)) 5) (hb4:Below pb w2 w4) (b4:Blk w4 g [.slice (some ⟨pb,0,none⟩) N N,.int .i64 (k:Nat)] 322) (ho4:∀j,j≠pb->w4.heap[j]?=w2.heap[j]?) :
  Pg (w4.setCell ⟨g,1,none⟩ (.int .i64 ((k:Int)+(P.length:Int)))) g pb N (k+P.length) (splice L k P)/\Below B w (w4.setCell ⟨g,1,none⟩ (.int .i64 ((k:Int)+(P.length:Int))))/\∀j,j<w.heap.size->j≠g->j≠pb->(w4.setCell ⟨g,1,none⟩ (.int .i64 ((k:Int)+(P.length:Int)))).heap[j]?=w.heap[j]?:=by
 have hl:=h.hp.lt;refine ⟨⟨b4.set 1 _,?_,by rw [Qc4 (by rw [h.len];exact hk)];exact h.len,h.ne⟩,?_,λ j h1 h2 h3=>?_⟩
 ·have:=hg4.set_other (a:=⟨g,1,none⟩) (λ e=>h.ne e.symm) (.int .i64 ((k:Int)+(P.length:Int)))
  rw [Qk3] at this;exact this
 ·exact ((b3.mono (by omega)).trans (hb4.mono hBp)).setCell hBg _
 ·rw [Below.heap_setCell _ _ _ _ (by exact h2),ho4 j h3,b3.block j h1]
set_option maxHeartbeats 2000000 in
theorem Q07 (g pb N k:Nat) (L:List Int) (b:Option Addr) (n c:Nat) (ws:List Int) (d:Option Addr) (m f:Nat) (vs:List Int) (B:Nat) (w:World) (hp:Pg w g pb N k L) (hx:NIn .i64 w b n ws) (hy:NIn .u64 w d m vs)
  (hk:k+(Qan ws vs).length<=N) (hkN:k<N) (hN:N<=100000) (hn:n<=1000) (hm:m<=1000) (hBp:B<=pb) (hBg:B<=g) :
  Calls prog 257 #[.pointer (some ⟨g,0,none⟩),.slice b n c,.slice d m f] w (PutE w B g pb N k L (Qan ws vs)):=by
 obtain ⟨P,hP⟩:∃P,P=Qan ws vs:=⟨_,rfl⟩
 have hPf:=Qc9 ws vs;have cP:=Qpk b n c ws d m f vs w.drew hx hy (by omega) (by omega);rw [<-hP] at hk hPf cP ⊢;obtain ⟨K,hK⟩:∃K,K=P.length:=⟨_,rfl⟩
 have c0:w.cell? ⟨g,0,none⟩=some (.slice (some ⟨pb,0,none⟩) N N):=hp.hp.cell 0;have c1:w.cell? ⟨g,1,none⟩=some (.int .i64 (k:Nat)):=hp.hp.cell 1;have hsl:∀w:World,(Instr.slice 71 (.slice (some ⟨pb,0,none⟩) N N) (some (.int .i64 (k:Int))) none none).run prog w=.ok (.slice (some ⟨pb,k,none⟩) (N - k) (N - k)) w:=λ w=>by
  have:=Qc6 Tryz.underlying71 Tryz.one_bytes (some ⟨pb,0,none⟩) N N k (by omega) w;rw [if_neg (by omega)] at this;simpa [Addr.add_mid] using this
 have hw:IntKind.i64.wrap ((k:Int)+((u8s P).length:Nat))=((k+P.length:Nat):Int):=by rw [IntKind.wrap_i64,Qah];omega
 have H:Hid (Pg w g pb N k L/\K=P.length/\(∀z∈P,Qaf z)/\k+K<=N/\B<=pb/\B<=g/\N<=100000/\B<=w.heap.size):=⟨hp,hK,hPf,by omega,hBp,hBg,hN,by have:=hp.hp.lt;omega⟩
 clear hx hy hp hPf hP hk hkN hN hn hm hBp hBg hK;go_enter func257,ntmps257
 go_region_law (first
  | (go_simp;go_at_call 144;refine cP.mono ?_;rintro e w2 ⟨a2,m2,d2,rfl,hm2,ow2,b2⟩;have hm3:m2=K:=hm2.trans (J2 H).symm;clear hm2;subst hm3;have b3:Below w.heap.size w w2:=(Below.refl _ _).drew.trans b2;have p3:=H.out.1.below b3;have k0:w2.cell? ⟨g,0,none⟩=some (.slice (some ⟨pb,0,none⟩) N N):=p3.hp.cell 0;have k1:w2.cell? ⟨g,1,none⟩=some (.int .i64 (k:Nat)):=p3.hp.cell 1;have i3:BIn w2 a2 m2 P:=Qcf ow2 (by have:=H.out;unfold maxLen;omega) (J3 H))
  | (refine Qmm rfl (.tmp 18) (.tmp 21) 71 71 rfl 5 Tryz.underlying71 Tryz.byte1 (some ⟨pb,k,none⟩) a2 (N - k) (N - k) m2 d2 rfl rfl pb k (u8s L) 5 p3.hb (u8s P) (by rw [Qah,<-(J2 H)];exact (Nat.min_eq_left (by have:=(J4 H);omega)).symm) (Q0i i3) (by rw [Qah,Qah,<-(J2 H),p3.len];exact (J4 H)) (Qhl _) ?_;intro w4 hg4 hb4 ho4 hs4;have b4:=Qq4 p3.hp (ho4 g p3.ne);have q1:w4.cell? ⟨g,1,none⟩=some (.int .i64 (k:Nat)):=b4.cell 1;have q2:=b4.frozen 1))
 all_goals (
  have HZ:=Q2p H.out.1 (by rw [<-(J2 H)];exact (J4 H)) (J5 H) (J6 H) p3 b3 hg4 hb4 b4 ho4;clear hg4 hb4 ho4 hs4 b4 q1 q2 p3 i3 b3 ow2 b2 k0 k1 c0 c1 hsl hw cP;go_end0
  exact ⟨rfl,HZ⟩)
end Go.Proofs.YtcdnjeiamihhbaaGreat

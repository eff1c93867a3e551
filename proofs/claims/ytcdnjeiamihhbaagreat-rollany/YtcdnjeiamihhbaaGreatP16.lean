/- P16 -/
import Derived.Test.YtcdnjeiamihhbaaGreatP15
set_option linter.unusedVariables false
set_option maxRecDepth 4000
open Go.Proofs.Tryz
namespace Go.Proofs.YtcdnjeiamihhbaaGreat
open Go.RowKit
section
theorem Q1r {w:World} {base s:Nat} {t T:TypeId} {v:Value} {n q:Nat} {zs L:List Value} (h:w.ownsRow base t s v n zs) (hb:Blk w q L T) (ht:t≠T) (i:Nat) (u:Value):(w.setCell ⟨q,i,none⟩ u).ownsRow base t s v n zs:=by
 refine ⟨h.1,?_⟩
 rcases h.2 with h2 | ⟨g,cap,cur,hv,hbg,hg,hr⟩
 ·exact .inl h2
 ·have hne:g≠q:=by
   rintro rfl;unfold Blk at hb;rw [hg] at hb;cases hb
   exact ht rfl
  exact .inr ⟨g,cap,cur,hv,hbg,by rw [Below.heap_setCell _ _ _ _ hne];exact hg,hr⟩
theorem Qi9 {w w':World} {base s:Nat} {t:TypeId} {v:Value} {n:Nat} {zs:List Value} (h:w.ownsRow base t s v n zs) (hb:Below w.heap.size w w'):w'.ownsRow base t s v n zs:=by
 refine ⟨h.1,?_⟩
 rcases h.2 with h2 | ⟨g,cap,cur,hv,hbg,hg,hr⟩
 ·exact .inl h2
 ·exact .inr ⟨g,cap,cur,hv,hbg,by rw [hb.block g (Array.getElem?_eq_some_iff.1 hg).1];exact hg,hr⟩
theorem Qwa {W:World} {base:Nat} {a:Option Addr} {n c:Nat} {xs:List It} (h:W.ownsRow base 190 5 (.slice a n c) n (itC xs)) (x:It) (hle:n+1<=100000) (hb:base<=W.heap.size) :
  ∃a' c' w',(Builtin.append_ #[175,175] 175 #[.slice a n c,.slice (some ⟨W.heap.size,0,none⟩) 1 1]).run prog (W.alloc (.cells #[.int .u32 x.t,.int .u64 x.b,.int .u8 x.k,.int .u32 x.s,.int .u16 x.e] 190))=.ok (.slice a' (n+1) c') w'/\w'.ownsRow base 190 5 (.slice a' (n+1) c') (n+1) (itC (xs ++ [x]))/\Below base W w'/\(∀(t b m:Nat) (v:Value) (zs:List Value),t≠190->W.ownsRow b t 1 v m zs->w'.ownsRow b t 1 v m zs):=by
 obtain ⟨i0,hi,hz0,hz1,hz2⟩:=info_parts Tryz.zero_item;obtain ⟨v',w',hrun,hown',hgrow,_⟩:=run_append_own (P:=prog) (W.alloc (.cells (itL x).toArray 190)) base 175 175 190 i0 _ 5 32 Tryz.underlying175 hi hz0 hz1 hz2 rfl (by decide) _ n (itC xs) (h.alloc _) ⟨W.heap.size,0,none⟩ 1 1 (itL x) rfl (by
  intro j u hj;rw [Addr.add_mid,Nat.zero_add,World.cell?_alloc_mark];simpa using hj) (Quk x) (by unfold maxLen;omega) (by omega) (by simp;omega)
 rw [Qrw] at hown';obtain ⟨a',c',rfl⟩:∃a' c',v'=.slice a' (n+1) c':=by
  rcases hown'.2 with ⟨hv,hn⟩ | ⟨g,cap,cur,hv,_⟩
  ·omega
  ·exact ⟨_,_,hv⟩
 exact ⟨a',c',w',hrun,hown',((Below.refl base W).alloc hb _).grown hgrow (by simp;omega) (λ k hk=>(h.lt k hk).1),λ t b m v zs hte ho=>(ho.alloc (.cells (itL x).toArray 190)).kept hgrow (Qbi (ho.alloc (.cells (itL x).toArray 190)) (h.alloc (.cells (itL x).toArray 190)) hte)⟩
structure DdSt (q:Nat) (w wr:World) (q5 g:Nat) (S:Int) (N:Nat) (A:Option Addr) (i C:Nat) (xs:List It) (R:Option Addr) (m F:Nat) (ys:List Int):Prop where
 res:Blk wr q [.int .u64 0,.slice none 0 0] 177
 rc:Blk wr q5 [.int .u64 S,.slice A i C] 177
 own:wr.ownsRow (q5+1) 190 5 (.slice A i C) i (itC xs)
 cnt:wr.cell? ⟨g,3,none⟩=some (.int .u64 (N:Int))
 rest:wr.ownsRow (q+1) 5 1 (.slice R m F) m (u8s ys)
 bel:Below q w wr
 lt:q<q5
 glt:g<q5
 heap:q=w.heap.size
section
variable {q:Nat} {w wr w':World} {q5 g:Nat} {S:Int} {N:Nat} {A:Option Addr} {i C:Nat} {xs:List It} {R:Option Addr} {m F:Nat} {ys:List Int}
theorem DdSt.below (h:DdSt q w wr q5 g S N A i C xs R m F ys) (hb:Below wr.heap.size wr w'):DdSt q w w' q5 g S N A i C xs R m F ys:=by
 have h1:=h.rc.lt;have h2:=h.lt;have h3:=h.glt;exact ⟨h.res.below hb h.res.lt,h.rc.below hb h1,Qi9 h.own hb,by rw [hb.cell (show g<wr.heap.size by omega)];exact h.cnt,Qi9 h.rest hb,h.bel.trans (hb.mono (by omega)),h2,h3,h.heap⟩
theorem DdSt.left (h:DdSt q w wr q5 g S N A i C xs R m F ys) {R':Option Addr} {m' F':Nat} {ys':List Int} (hr:wr.ownsRow (q+1) 5 1 (.slice R' m' F') m' (u8s ys')):DdSt q w wr q5 g S N A i C xs R' m' F' ys':=
 ⟨h.res,h.rc,h.own,h.cnt,hr,h.bel,h.lt,h.glt,h.heap⟩
theorem DdSt.more {A':Option Addr} {C':Nat} {x:It} (h:DdSt q w wr q5 g S N A i C xs R m F ys) (ho:w'.ownsRow (q5+1) 190 5 (.slice A' (i+1) C') (i+1) (itC (xs ++ [x]))) (hb:Below (q5+1) wr w') (hr:w'.ownsRow (q+1) 5 1 (.slice R m F) m (u8s ys)):DdSt q w (w'.setCell ⟨q5,1,none⟩ (.slice A' (i+1) C')) q5 g S N A' (i+1) C' (xs ++ [x]) R m F ys:=by
 have h2:=h.lt;have h3:=h.glt;have hrc:=h.rc.below hb (by omega);refine ⟨(h.res.below hb (by omega)).set_other (by show q≠q5;omega) _,hrc.set 1 _,Qbj ho (by show q5<q5+1;omega) _,?_,Q1r hr hrc (by decide) 1 _,(h.bel.trans (hb.mono (by omega))).setCell (by show q<=q5;omega) _,h2,h3,h.heap⟩
 have hc:w'.cell? ⟨g,3,none⟩=some (.int .u64 (N:Int)):=by rw [hb.cell (show g<q5+1 by omega)];exact h.cnt
 exact Qa1 hc (by show g≠q5;omega)
end
def DDec (w:World) (bs:List Int) (e:Ending) (w':World):Prop:=
 ∃A n C,e=.returned (.tuple #[.agg #[.int .u64 (decS bs),.slice A n C],.int .i64 (decE bs)])/\ItsIn w' A n (decX bs)/\Below w.heap.size w w'/\Qii w.heap.size A n
theorem Q2r {w V:World} {bs:List Int} (h:Below w.heap.size w V) (hno:¬IsR bs):DDec w bs (.returned (.tuple #[.agg #[.int .u64 0,.slice none 0 0],.int .i64 111])) V:=by
 refine ⟨none,0,0,?_⟩
 unfold decS decE decX;rw [if_neg hno,if_neg hno,if_neg hno];exact ⟨rfl,Qkv _,h,λ h=>(h rfl).elim⟩
theorem Q0m {w V:World} {bs:List Int} {A:Option Addr} {n C:Nat} (h:Below w.heap.size w V) (hy:IsR bs) (hi:ItsIn V A n (Qb8 bs)) (hfr:Qii w.heap.size A n):DDec w bs (.returned (.tuple #[.agg #[.int .u64 (Qd6 bs),.slice A n C],.int .i64 0])) V:=by
 refine ⟨A,n,C,?_⟩
 unfold decS decE decX;rw [if_pos hy,if_pos hy,if_pos hy];exact ⟨rfl,hi,h,hfr⟩
theorem Qpu {w V:World} {bs:List Int} {q:Nat} (hq:q=w.heap.size) (hb:Blk V q [.int .u64 0,.slice none 0 0] 177) (bel:Below q w V) (hno:¬IsR bs) :
  Blk ((V.setCell ⟨q,0,none⟩ (.int .u64 0)).setCell ⟨q,1,none⟩ (.slice none 0 0)) q [.int .u64 0,.slice none 0 0] 177/\DDec w bs (.returned (.tuple #[.agg #[.int .u64 0,.slice none 0 0],.int .i64 111])) ((V.setCell ⟨q,0,none⟩ (.int .u64 0)).setCell ⟨q,1,none⟩ (.slice none 0 0)):=
 ⟨(hb.set 0 _).set 1 _,Q2r (by rw [<-hq];exact (bel.setCell (p:=⟨q,0,none⟩) (Nat.le_refl _) _).setCell (p:=⟨q,1,none⟩) (Nat.le_refl _) _) hno⟩
theorem Q3s {bs:List Int} (h:18<=bs.length):Qcw bs hdW=[rdM bs,numI ((bs.drop 4).take 4),Qd6 bs,rdN bs]/\Qei bs hdW=bs.drop 18:=by
 unfold Qcw Qei;rw [off_hd,if_pos h,if_pos h,Q0y];exact ⟨rfl,rfl⟩
theorem Q35 {ys:List Int} (h:19<=ys.length):Qcw ys itW=itV (rdI ys)/\Qei ys itW=ys.drop 19:=by
 unfold Qcw Qei;rw [off_it,if_pos h,if_pos h,Q0o];exact ⟨rfl,rfl⟩
set_option maxHeartbeats 2000000 in
theorem Qtc (a:Option Addr) (n c:Nat) (bs:List Int) (w:World) (hx:BIn w a n bs) (hnil:a=none->n=0/\c=0) (hnc:n<=c) (hn:n<=100000) :
  Calls prog 99 #[.slice a n c] w (DDec w bs):=by
 obtain ⟨q,hq⟩:∃q,q=w.heap.size:=⟨_,rfl⟩
 have r0:Blk (w.alloc (.cells #[.int .u64 0,.slice none 0 0] 177)) q [.int .u64 0,.slice none 0 0] 177:=Blk.new' hq.symm rfl;have bw:Below q w (w.alloc (.cells #[.int .u64 0,.slice none 0 0] 177)):=(Below.refl _ _).alloc (by omega) _;have hsz:(w.alloc (.cells #[.int .u64 0,.slice none 0 0] 177)).heap.size=q+1:=by simp [hq]
 have H:Hid (BIn w a n bs/\(a=none->n=0/\c=0)/\n<=c/\q=w.heap.size):=⟨hx,hnil,hnc,hq⟩
 clear hx hnil hnc;go_enter func99,ntmps99
 go_upto_region 1 with fail
 rw [<-hq];clear hq;generalize hW:World.alloc w _=W at r0 bw hsz ⊢;have HW:Hid (Blk W q [.int .u64 0,.slice none 0 0] 177/\Below q w W/\W.heap.size=q+1):=⟨r0,bw,hsz⟩
 clear r0 bw hsz hW;go_wp2_with fail
 refine (Qfe a n c bs (some ⟨W.heap.size,0,none⟩) 4 4 hdW _ ((H.out.1.below (by rw [<-(Jz3 H)];exact (J2 HW))).alloc _) (J2 H) (J3 H) (Qoh rfl) hn (by omega)).mono ?_
 rw [off_hd,H.out.1.1];rintro e V ⟨A,k,D,R,r,F,rfl,ow,ow3,bl⟩;have hW1:=(Jz2 HW)
 have blV:Below (q+1) W V:=((Below.refl (q+1) W).alloc (by omega) _).trans (bl.mono (by simp;omega));have HB:Hid (Blk V q [.int .u64 0,.slice none 0 0] 177/\Below q w V/\q+1<=V.heap.size):=⟨HW.out.1.below blV (by omega),(J2 HW).trans (blV.mono (by omega)),by have:=blV.size;omega⟩
 by_cases h18:18<=n
 rotate_left
 ·rw [decide_eq_false h18]
  have hno:¬IsR bs:=λ h=>by have:=h.bounds;have:=H.out.1.1;omega
  have bb:∀j,Blk (V.drewN j) q [.int .u64 0,.slice none 0 0] 177:=λ j=>HB.out.1.below (Go.below_drewN (Below.refl _ _) j) HB.out.1.lt
  have HE:Hid (∀j,Blk (((V.drewN j).setCell ⟨q,0,none⟩ (.int .u64 0)).setCell ⟨q,1,none⟩ (.slice none 0 0)) q [.int .u64 0,.slice none 0 0] 177/\DDec w bs (.returned (.tuple #[.agg #[.int .u64 0,.slice none 0 0],.int .i64 111])) (((V.drewN j).setCell ⟨q,0,none⟩ (.int .u64 0)).setCell ⟨q,1,none⟩ (.slice none 0 0))):=λ j=>Qpu (Jz3 H) (bb j) (Go.below_drewN (J2 HB) j) hno
  have d0:∀j,(V.drewN j).cell? ⟨q,0,none⟩=some (.int .u64 0):=λ j=>(bb j).cell 0
  have d1:∀j,(V.drewN j).cell? ⟨q,1,none⟩=some (.slice none 0 0):=λ j=>(bb j).cell 1
  have z0:=λ j=>(bb j).frozen 0
  have z1:=λ j=>(bb j).frozen 1
  clear bb hno h18 ow ow3 bl blV hW1;go_wp2
  go_quiet (fail)
  go_wp2
  exact bodyPost_ret (Qad (p:=2) (u:=3) (ty:=177) rfl _ _ q _ _ _ rfl (HE.out _).1 Tryz.underlying177 rfl Tryz.info_record _ rfl) rfl (HE.out _).2
 ·rw [decide_eq_true h18]
  have hbl:=H.out.1.1;rw [(Q3s (bs:=bs) (by omega)).1] at ow;rw [(Q3s (bs:=bs) (by omega)).2] at ow3;obtain ⟨g,rfl,hk,hg,hkC,hc⟩:=Qer ow (by simp);have hk4:k=4:=by simpa using hk
  subst hk4;have c2:V.cell? ⟨g,2,none⟩=some (.int .u64 (Qd6 bs)):=hc 2 (by simp);have c3:V.cell? ⟨g,3,none⟩=some (.int .u64 (rdN bs)):=hc 3 (by simp);have hgl:g<V.heap.size:=Qaa c3;have hNf:=Qqw H.out.1.2.2.1;have hIf:=Qly (rdN bs).toNat (ys:=bs.drop 18) (λ z hz=>H.out.1.2.2.1 z (List.mem_of_mem_drop hz));obtain ⟨S,hS⟩:∃S,S=Qd6 bs:=⟨_,rfl⟩
  obtain ⟨N,hN⟩:∃N:Nat,rdN bs=N:=⟨(rdN bs).toNat,by have:=hNf.1;omega⟩
  rw [<-hS] at c2;rw [hN] at c3;have hr:r=n - 18:=by have:=ow3.1;rw [Qah,List.length_drop,hbl] at this;omega
  have hNs:N<65536:=by have:=hNf.2;omega
  have HF:Hid (S=Qd6 bs/\(rdN bs).toNat=N/\Qb8 bs=rdL N (bs.drop 18)/\(∀x∈rdL N (bs.drop 18),x.Fits)/\bs.length=n/\(Qb8 bs).length=N/\r=n - 18/\g<V.heap.size/\Qai S):=⟨hS,by omega,by unfold Qb8;rw [hN];rfl,by rw [hN] at hIf;exact hIf,hbl,by unfold Qb8;rw [Qff];omega,hr,hgl,by rw [hS];exact Qha H.out.1.2.2.1⟩
  have H3:Hid (V.ownsRow (q+1) 5 1 (.slice R r F) r (u8s (bs.drop 18))):=Qa3 ow3 (by simp;omega);have cR:=λ X=>Qrb (n:Int) X
  obtain ⟨M,hM⟩:∃M,M=Qbu (n:Int):=⟨_,rfl⟩
  simp only [<-hM] at cR
  have hMl:=Qj6 (n:Int);rw [<-hM] at hMl;have hMw:IntKind.u64.wrap M=M:=by rw [IntKind.wrap_u64];omega
  have HM:Hid (M=Qbu (n:Int)):=hM;clear ow ow3 bl blV hW1 hk hg hkC hc hNf hIf hN hS hM hr hgl hMl hbl;by_cases hNr:M<(N:Int)
  ·have hno:¬IsR bs:=λ h=>by have h1:=h.1.2.1;rw [(J6 HF),(J5 HF),<-HM.out] at h1;omega
   have hnd:decide (M<(N:Int))=true:=by simp [hNr]
   have hbd:=HB.out.1.drew;have HE:Hid (Blk ((V.drew.setCell ⟨q,0,none⟩ (.int .u64 0)).setCell ⟨q,1,none⟩ (.slice none 0 0)) q [.int .u64 0,.slice none 0 0] 177/\DDec w bs (.returned (.tuple #[.agg #[.int .u64 0,.slice none 0 0],.int .i64 111])) ((V.drew.setCell ⟨q,0,none⟩ (.int .u64 0)).setCell ⟨q,1,none⟩ (.slice none 0 0))):=Qpu (Jz3 H) hbd (J2 HB).drew hno;clear hNr hno;go_wp2
   go_region_held3 (λ X=>X.cell? ⟨g,3,none⟩=some (.int .u64 (N:Int))) (first | exact c3) ((go_at_call 158;refine (cR _).mono ?_;rintro e w2 ⟨rfl,hw2⟩;replace hw2:=hw2.symm;subst hw2))
   generalize World.drew V=V1 at hbd HE ⊢;have d0:V1.cell? ⟨q,0,none⟩=some (.int .u64 0):=hbd.cell 0;have d1:V1.cell? ⟨q,1,none⟩=some (.slice none 0 0):=hbd.cell 1;have z0:=hbd.frozen 0;have z1:=hbd.frozen 1;clear hbd;go_wp2
   exact bodyPost_ret (Qad (p:=2) (u:=3) (ty:=177) rfl _ _ q _ _ _ rfl HE.out.1 Tryz.underlying177 rfl Tryz.info_record _ rfl) rfl HE.out.2
  ·have hnd:decide (M<(N:Int))=false:=by simp;omega
   have hroom:0<N->19+19*N<=n:=λ h=>by
    have h1:=(Qd9 (b:=(n:Int)) (by rw [<-HM.out];omega)).2;rw [<-HM.out] at h1;omega
   have HR:Hid (0<N->19+19*N<=n):=hroom;have hvd:Hid (Blk V.drew q [.int .u64 0,.slice none 0 0] 177/\Below q w V.drew/\q+1<=V.drew.heap.size/\V.drew.ownsRow (q+1) 5 1 (.slice R r F) r (u8s (bs.drop 18))/\g<V.drew.heap.size):=⟨HB.out.1.drew,(J2 HB).drew,(Jz2 HB),H3.out.drew,(J8 HF)⟩
   have e2:V.drew.cell? ⟨g,2,none⟩=some (.int .u64 S):=c2;have e3:V.drew.cell? ⟨g,3,none⟩=some (.int .u64 (N:Int)):=c3;clear hNr hroom;go_wp2
   go_region_held3 (λ X=>X.cell? ⟨g,3,none⟩=some (.int .u64 (N:Int))) (first | exact c3) ((go_at_call 158;refine (cR _).mono ?_;rintro e w2 ⟨rfl,hw2⟩;replace hw2:=hw2.symm;subst hw2))
   clear c2 c3 hMw hnd cR;generalize World.drew V=V1 at hvd e2 e3 ⊢;obtain ⟨q5,hq5⟩:∃q5,q5=V1.heap.size:=⟨_,rfl⟩
   have b5:Below V1.heap.size V1 (V1.alloc (.cells #[.int .u64 S,.slice none 0 0] 177)):=(Below.refl _ _).alloc (Nat.le_refl _) _;have st0:DdSt q w (V1.alloc (.cells #[.int .u64 S,.slice none 0 0] 177)) q5 g S N none 0 0 (rdL 0 (bs.drop 18)) R r F (bs.drop (18+19*0)):=
    ⟨hvd.out.1.alloc _,Blk.new' hq5.symm rfl,World.ownsRow_nil _ _ _ _,(b5.cell (Jz4 hvd)).trans e3,(J4 hvd).alloc _,(J2 hvd).trans (b5.mono (by have:=(J3 hvd);omega)),by have:=(J3 hvd);omega,by have:=(Jz4 hvd);omega,(Jz3 H)⟩
   clear b5;go_upto_region 5 with fail
   rw [<-hq5];generalize hW5:World.alloc V1 _=W5 at st0 ⊢;have H5:Hid (DdSt q w W5 q5 g S N none 0 0 (rdL 0 (bs.drop 18)) R r F (bs.drop (18+19*0))):=st0;clear st0 e2 e3 hq5 hW5;go_wp2
   go_loopw [5,8] (λ s x wr=>∃(i:Nat) (A:Option Addr) (C:Nat) (L:Option Addr) (m c':Nat),x=.int .u64 i/\s=.slice L m c'/\i<=N/\18+19*i+m=n/\DdSt q w wr q5 g S N A i C (rdL i (bs.drop 18)) L m c' (bs.drop (18+19*i))) (λ _ x _=>N - (intOf x).toNat)
   case atStart=>exact ⟨0,none,0,R,r,F,rfl,rfl,Nat.zero_le _,by have:=(J7 HF);omega,H5.out⟩
   case round=>
    obtain ⟨i,A,C',L,m,c',rfl,rfl,hi,hmn,st⟩:=hrel;have cn:=st.cnt;rcases Nat.lt_or_ge i N with hlt | hge
    ·have hi':(i:Int)<N:=by omega
     have hwi:IntKind.u64.wrap ((i:Int)+1)=(i:Int)+1:=by rw [IntKind.wrap_u64];omega
     have hm19:19<=m:=by have:=HR.out (by omega);omega
     obtain ⟨ys,hys⟩:∃ys,ys=bs.drop (18+19*i):=⟨_,rfl⟩
     have hyl:ys.length=m:=by rw [hys,List.length_drop,(J5 HF)];omega
     have hyf:∀z∈ys,Qaf z:=by rw [hys];exact λ z hz=>H.out.1.2.2.1 z (List.mem_of_mem_drop hz)
     rw [<-hys] at st;have HT:Hid (DdSt q w wr q5 g S N A i C' (rdL i (bs.drop 18)) L m c' ys/\ys=bs.drop (18+19*i)/\ys.length=m/\(∀z∈ys,Qaf z)/\19<=m/\18+19*i+m=n):=⟨st,hys,hyl,hyf,hm19,hmn⟩
     clear st hys hyl hyf hm19;go_wp2_with fail
     refine (Qfe L m c' ys (some ⟨wr.heap.size,0,none⟩) 5 5 itW _ ((Qcf HT.out.1.rest (by unfold maxLen;omega) (J4 HT)).alloc _) (Qrm HT.out.1.rest) (Qlg HT.out.1.rest) (Qn3 rfl) (by omega) (by omega)).mono ?_
     rw [off_it,(J3 HT),(Q35 (ys:=ys) (by rw [(J3 HT)];exact (J5 HT))).1,(Q35 (ys:=ys) (by rw [(J3 HT)];exact (J5 HT))).2,decide_eq_true (J5 HT)];rintro e V2 ⟨A2,k2,C2,R2,r2,F2,rfl,ow2,ow3,bl2⟩;obtain ⟨X,hX⟩:∃X,X=rdI ys:=⟨_,rfl⟩
     have hXf:X.Fits:=by rw [hX];exact Qlx (J4 HT)
     rw [<-hX] at ow2;obtain ⟨gN,rfl,hk5,hgN,_,hcN⟩:=Qer ow2 (by simp [itV]);have hk5':k2=5:=by simpa [itV] using hk5
     subst hk5';have hr2:r2=m - 19:=by have:=ow3.1;rw [Qah,List.length_drop,(J3 HT)] at this;omega
     subst hr2;have bw2:Below wr.heap.size wr V2:=((Below.refl _ _).alloc (Nat.le_refl _) _).trans (bl2.mono (by simp));have hq1:q+1<=wr.heap.size:=by have:=HT.out.1.res.lt;omega
     have st2:=(HT.out.1.below bw2).left (Qa3 ow3 (by simp;omega));have n0:V2.cell? ⟨gN,0,none⟩=some (.int .u64 X.t):=hcN 0 (by simp [itV]);have n1:V2.cell? ⟨gN,1,none⟩=some (.int .u64 X.b):=hcN 1 (by simp [itV]);have n2:V2.cell? ⟨gN,2,none⟩=some (.int .u64 X.k):=hcN 2 (by simp [itV]);have n3:V2.cell? ⟨gN,3,none⟩=some (.int .u64 X.s):=hcN 3 (by simp [itV]);have n4:V2.cell? ⟨gN,4,none⟩=some (.int .u64 X.e):=hcN 4 (by simp [itV]);obtain ⟨u0,u2,u3,u4⟩:IntKind.u32.wrap X.t=X.t/\IntKind.u8.wrap X.k=X.k/\IntKind.u32.wrap X.s=X.s/\IntKind.u16.wrap X.e=X.e:=by
      obtain ⟨f0,_,f2,f3,f4⟩:=hXf;unfold Qas at f0 f3;unfold Qaf at f2;unfold Qb4 at f4;simp only [IntKind.wrap_u32,IntKind.wrap_u8,IntKind.wrap_u16]
      omega
     have m1:V2.cell? ⟨q5,1,none⟩=some (.slice A i C'):=st2.rc.cell 1;have m2:∀o,(V2.alloc o).cell? ⟨q5,1,none⟩=some (.slice A i C'):=λ o=>(st2.rc.alloc o).cell 1
     have st2:=st2.below ((Below.refl _ _).drew);obtain ⟨a9,c9,w9,e9',o9,b9,k9⟩:=Qwa st2.own X (by omega) (by have:=st2.rc.lt;omega);have e9:(Builtin.append_ #[175,175] 175 #[.slice A i C',.slice (some ⟨V2.heap.size,0,none⟩) 1 1]).run prog (V2.alloc (.cells #[.int .u32 X.t,.int .u64 X.b,.int .u8 X.k,.int .u32 X.s,.int .u16 X.e] 190)).drew=.ok (.slice a9 (i+1) c9) w9:=e9';have rc9:=st2.rc.below b9 (by omega);have m4:w9.cell? ⟨q5,1,none⟩=some (.slice A i C'):=rc9.cell 1;have m5:=rc9.frozen 1;have st9:=st2.more o9 b9 (k9 5 _ _ _ _ (by decide) st2.rest);have ox9:=k9 45 _ _ _ _ (by decide) (Qi9 ow2 ((Below.refl _ _).drew));have hne:gN≠q5:=by have:=HT.out.1.rc.lt;simp at hgN;omega
     have r0:w9.cell? ⟨gN,0,none⟩=some (.int .u64 X.t):=(ox9.cellAt 0 (by decide)).trans rfl;have r1:w9.cell? ⟨gN,1,none⟩=some (.int .u64 X.b):=(ox9.cellAt 1 (by decide)).trans rfl;have r2:w9.cell? ⟨gN,2,none⟩=some (.int .u64 X.k):=(ox9.cellAt 2 (by decide)).trans rfl;have r3:w9.cell? ⟨gN,3,none⟩=some (.int .u64 X.s):=(ox9.cellAt 3 (by decide)).trans rfl;have r4:w9.cell? ⟨gN,4,none⟩=some (.int .u64 X.e):=(ox9.cellAt 4 (by decide)).trans rfl;have t0:(w9.setCell ⟨q5,1,none⟩ (.slice a9 (i+1) c9)).cell? ⟨gN,0,none⟩=some (.int .u64 X.t):=Qa1 r0 (by show gN≠q5;exact hne);have t1:(w9.setCell ⟨q5,1,none⟩ (.slice a9 (i+1) c9)).cell? ⟨gN,1,none⟩=some (.int .u64 X.b):=Qa1 r1 (by show gN≠q5;exact hne);have t2:(w9.setCell ⟨q5,1,none⟩ (.slice a9 (i+1) c9)).cell? ⟨gN,2,none⟩=some (.int .u64 X.k):=Qa1 r2 (by show gN≠q5;exact hne);have t3:(w9.setCell ⟨q5,1,none⟩ (.slice a9 (i+1) c9)).cell? ⟨gN,3,none⟩=some (.int .u64 X.s):=Qa1 r3 (by show gN≠q5;exact hne);have t4:(w9.setCell ⟨q5,1,none⟩ (.slice a9 (i+1) c9)).cell? ⟨gN,4,none⟩=some (.int .u64 X.e):=Qa1 r4 (by show gN≠q5;exact hne);have p0:∀o,(V2.alloc o).cell? ⟨gN,0,none⟩=some (.int .u64 X.t):=λ o=>(((Below.refl _ V2).alloc (Nat.le_refl _) o).cell (Qaa n0)).trans n0
     have p1:∀o,(V2.alloc o).cell? ⟨gN,1,none⟩=some (.int .u64 X.b):=λ o=>(((Below.refl _ V2).alloc (Nat.le_refl _) o).cell (Qaa n1)).trans n1
     have p2:∀o,(V2.alloc o).cell? ⟨gN,2,none⟩=some (.int .u64 X.k):=λ o=>(((Below.refl _ V2).alloc (Nat.le_refl _) o).cell (Qaa n2)).trans n2
     have p3:∀o,(V2.alloc o).cell? ⟨gN,3,none⟩=some (.int .u64 X.s):=λ o=>(((Below.refl _ V2).alloc (Nat.le_refl _) o).cell (Qaa n3)).trans n3
     have p4:∀o,(V2.alloc o).cell? ⟨gN,4,none⟩=some (.int .u64 X.e):=λ o=>(((Below.refl _ V2).alloc (Nat.le_refl _) o).cell (Qaa n4)).trans n4
     have H9 : Hid (DdSt q w (w9.setCell ⟨q5, 1, none⟩ (.slice a9 (i + 1) c9)) q5 g S N a9 (i + 1) c9 (rdL (i + 1) (bs.drop 18)) R2 (m - 19) F2 (bs.drop (18 + 19 * (i + 1)))) := by
      rw [(J2 HT),List.drop_drop] at st9;have e:rdL (i+1) (bs.drop 18)=rdL i (bs.drop 18) ++ [X]:=by rw [Qld,List.drop_drop,hX,(J2 HT)]
      rw [e];exact st9
     clear hX hXf ow2 ow3 bl2 hk5 hcN bw2 hq1 st2 o9 b9 k9 rc9 st9 e9' ox9 hne hgN;go_upto_region 12 with fail
     refine wp_region_held_drew (S:=λ Y=>Y.cell? ⟨gN,0,none⟩=some (.int .u64 X.t)/\Y.cell? ⟨gN,1,none⟩=some (.int .u64 X.b)/\Y.cell? ⟨gN,2,none⟩=some (.int .u64 X.k)/\Y.cell? ⟨gN,3,none⟩=some (.int .u64 X.s)/\Y.cell? ⟨gN,4,none⟩=some (.int .u64 X.e)) (by kernel_rfl) (by exact ⟨n0,n1,n2,n3,n4⟩) (λ hS=>?_)
     refine wpAnyH_take (i:=0) (oi:={dst:=some 56,op:=Op.fieldAddr 177 (Operand.tmp 7) 1,type:=0,pos:="ref.go:58",after:=#[],guard:=none}) (v:=.pointer (some ⟨q5,1,none⟩)) rfl (by kernel_rfl) (by kernel_rfl) (by kernel_rfl) (λ _ _ _ h=>h) (Or.inl ⟨by rfl,λ Y hY=>by (try dsimp only at hY);go_simp⟩) hS ?_
     simp only [Act.put,List.setIfInBounds_toArray,List.set_cons_zero,List.set_cons_succ]
     refine wpAnyH_take (i:=2) (oi:={dst:=some 58,op:=Op.move (Operand.tmp 9),type:=46,pos:="ref.go:58",after:=#[],guard:=none}) (v:=.slice (some ⟨gN,0,none⟩) 5 C2) rfl (by kernel_rfl) (by kernel_rfl) (by kernel_rfl) (λ _ _ _ h=>h) (Or.inl ⟨by rfl,λ Y hY=>by (try dsimp only at hY);go_simp⟩) hS ?_
     simp only [Act.put,List.setIfInBounds_toArray,List.set_cons_zero,List.set_cons_succ]
     refine wpAnyH_take (i:=3) (oi:={dst:=some 59,op:=Op.indexAddr 46 (Operand.tmp 58) (Operand.const (Value.int IntKind.i64 0)),type:=0,pos:="ref.go:58",after:=#[{on:=2,ground:=Ground.data}],guard:=none}) (v:=.pointer (some ⟨gN,0,none⟩)) rfl (by kernel_rfl) (by kernel_rfl) (by kernel_rfl) (λ _ _ _ h=>h) (Or.inl ⟨by rfl,λ Y hY=>by (try dsimp only at hY);go_simp⟩) hS ?_
     simp only [Act.put,List.setIfInBounds_toArray,List.set_cons_zero,List.set_cons_succ]
     refine wpAnyH_take (i:=4) (oi:={dst:=some 60,op:=Op.load 45 (Operand.tmp 59),type:=45,pos:="ref.go:58",after:=#[{on:=3,ground:=Ground.data}],guard:=none}) (v:=.int .u64 X.t) rfl (by kernel_rfl) (by kernel_rfl) (by kernel_rfl) (λ _ _ _ h=>h) (Or.inl ⟨by rfl,λ Y hY=>by (try dsimp only at hY);go_simp⟩) hS ?_
     simp only [Act.put,List.setIfInBounds_toArray,List.set_cons_zero,List.set_cons_succ]
     refine wpAnyH_take (i:=5) (oi:={dst:=some 61,op:=Op.convert 45 70 (Operand.tmp 60),type:=70,pos:="ref.go:58",after:=#[{on:=4,ground:=Ground.data}],guard:=none}) (v:=.int .u32 X.t) rfl (by kernel_rfl) (by kernel_rfl) (by kernel_rfl) (λ _ _ _ h=>h) (Or.inl ⟨by rfl,λ Y hY=>by (try dsimp only at hY);go_simp⟩) hS ?_
     simp only [Act.put,List.setIfInBounds_toArray,List.set_cons_zero,List.set_cons_succ]
     refine wpAnyH_take (i:=6) (oi:={dst:=some 62,op:=Op.move (Operand.tmp 9),type:=46,pos:="ref.go:58",after:=#[],guard:=none}) (v:=.slice (some ⟨gN,0,none⟩) 5 C2) rfl (by kernel_rfl) (by kernel_rfl) (by kernel_rfl) (λ _ _ _ h=>h) (Or.inl ⟨by rfl,λ Y hY=>by (try dsimp only at hY);go_simp⟩) hS ?_
     simp only [Act.put,List.setIfInBounds_toArray,List.set_cons_zero,List.set_cons_succ]
     refine wpAnyH_take (i:=7) (oi:={dst:=some 63,op:=Op.indexAddr 46 (Operand.tmp 62) (Operand.const (Value.int IntKind.i64 1)),type:=0,pos:="ref.go:58",after:=#[{on:=6,ground:=Ground.data}],guard:=none}) (v:=.pointer (some ⟨gN,1,none⟩)) rfl (by kernel_rfl) (by kernel_rfl) (by kernel_rfl) (λ _ _ _ h=>h) (Or.inl ⟨by rfl,λ Y hY=>by (try dsimp only at hY);go_simp⟩) hS ?_
     simp only [Act.put,List.setIfInBounds_toArray,List.set_cons_zero,List.set_cons_succ]
     refine wpAnyH_take (i:=8) (oi:={dst:=some 64,op:=Op.load 45 (Operand.tmp 63),type:=45,pos:="ref.go:58",after:=#[{on:=7,ground:=Ground.data}],guard:=none}) (v:=.int .u64 X.b) rfl (by kernel_rfl) (by kernel_rfl) (by kernel_rfl) (λ _ _ _ h=>h) (Or.inl ⟨by rfl,λ Y hY=>by (try dsimp only at hY);go_simp⟩) hS ?_
     simp only [Act.put,List.setIfInBounds_toArray,List.set_cons_zero,List.set_cons_succ]
     refine wpAnyH_take (i:=9) (oi:={dst:=some 65,op:=Op.move (Operand.tmp 9),type:=46,pos:="ref.go:58",after:=#[],guard:=none}) (v:=.slice (some ⟨gN,0,none⟩) 5 C2) rfl (by kernel_rfl) (by kernel_rfl) (by kernel_rfl) (λ _ _ _ h=>h) (Or.inl ⟨by rfl,λ Y hY=>by (try dsimp only at hY);go_simp⟩) hS ?_
     simp only [Act.put,List.setIfInBounds_toArray,List.set_cons_zero,List.set_cons_succ]
     refine wpAnyH_take (i:=10) (oi:={dst:=some 66,op:=Op.indexAddr 46 (Operand.tmp 65) (Operand.const (Value.int IntKind.i64 2)),type:=0,pos:="ref.go:58",after:=#[{on:=9,ground:=Ground.data}],guard:=none}) (v:=.pointer (some ⟨gN,2,none⟩)) rfl (by kernel_rfl) (by kernel_rfl) (by kernel_rfl) (λ _ _ _ h=>h) (Or.inl ⟨by rfl,λ Y hY=>by (try dsimp only at hY);go_simp⟩) hS ?_
     simp only [Act.put,List.setIfInBounds_toArray,List.set_cons_zero,List.set_cons_succ]
     refine wpAnyH_take (i:=11) (oi:={dst:=some 67,op:=Op.load 45 (Operand.tmp 66),type:=45,pos:="ref.go:58",after:=#[{on:=10,ground:=Ground.data}],guard:=none}) (v:=.int .u64 X.k) rfl (by kernel_rfl) (by kernel_rfl) (by kernel_rfl) (λ _ _ _ h=>h) (Or.inl ⟨by rfl,λ Y hY=>by (try dsimp only at hY);go_simp⟩) hS ?_
     simp only [Act.put,List.setIfInBounds_toArray,List.set_cons_zero,List.set_cons_succ]
     refine wpAnyH_take (i:=12) (oi:={dst:=some 68,op:=Op.convert 45 5 (Operand.tmp 67),type:=5,pos:="ref.go:58",after:=#[{on:=11,ground:=Ground.data}],guard:=none}) (v:=.int .u8 X.k) rfl (by kernel_rfl) (by kernel_rfl) (by kernel_rfl) (λ _ _ _ h=>h) (Or.inl ⟨by rfl,λ Y hY=>by (try dsimp only at hY);go_simp⟩) hS ?_
     simp only [Act.put,List.setIfInBounds_toArray,List.set_cons_zero,List.set_cons_succ]
     refine wpAnyH_take (i:=13) (oi:={dst:=some 69,op:=Op.move (Operand.tmp 9),type:=46,pos:="ref.go:58",after:=#[],guard:=none}) (v:=.slice (some ⟨gN,0,none⟩) 5 C2) rfl (by kernel_rfl) (by kernel_rfl) (by kernel_rfl) (λ _ _ _ h=>h) (Or.inl ⟨by rfl,λ Y hY=>by (try dsimp only at hY);go_simp⟩) hS ?_
     simp only [Act.put,List.setIfInBounds_toArray,List.set_cons_zero,List.set_cons_succ]
     refine wpAnyH_take (i:=14) (oi:={dst:=some 70,op:=Op.indexAddr 46 (Operand.tmp 69) (Operand.const (Value.int IntKind.i64 3)),type:=0,pos:="ref.go:58",after:=#[{on:=13,ground:=Ground.data}],guard:=none}) (v:=.pointer (some ⟨gN,3,none⟩)) rfl (by kernel_rfl) (by kernel_rfl) (by kernel_rfl) (λ _ _ _ h=>h) (Or.inl ⟨by rfl,λ Y hY=>by (try dsimp only at hY);go_simp⟩) hS ?_
     simp only [Act.put,List.setIfInBounds_toArray,List.set_cons_zero,List.set_cons_succ]
     refine wpAnyH_take (i:=15) (oi:={dst:=some 71,op:=Op.load 45 (Operand.tmp 70),type:=45,pos:="ref.go:58",after:=#[{on:=14,ground:=Ground.data}],guard:=none}) (v:=.int .u64 X.s) rfl (by kernel_rfl) (by kernel_rfl) (by kernel_rfl) (λ _ _ _ h=>h) (Or.inl ⟨by rfl,λ Y hY=>by (try dsimp only at hY);go_simp⟩) hS ?_
     simp only [Act.put,List.setIfInBounds_toArray,List.set_cons_zero,List.set_cons_succ]
     refine wpAnyH_take (i:=16) (oi:={dst:=some 72,op:=Op.convert 45 70 (Operand.tmp 71),type:=70,pos:="ref.go:58",after:=#[{on:=15,ground:=Ground.data}],guard:=none}) (v:=.int .u32 X.s) rfl (by kernel_rfl) (by kernel_rfl) (by kernel_rfl) (λ _ _ _ h=>h) (Or.inl ⟨by rfl,λ Y hY=>by (try dsimp only at hY);go_simp⟩) hS ?_
     simp only [Act.put,List.setIfInBounds_toArray,List.set_cons_zero,List.set_cons_succ]
     refine wpAnyH_take (i:=17) (oi:={dst:=some 73,op:=Op.move (Operand.tmp 9),type:=46,pos:="ref.go:58",after:=#[],guard:=none}) (v:=.slice (some ⟨gN,0,none⟩) 5 C2) rfl (by kernel_rfl) (by kernel_rfl) (by kernel_rfl) (λ _ _ _ h=>h) (Or.inl ⟨by rfl,λ Y hY=>by (try dsimp only at hY);go_simp⟩) hS ?_
     simp only [Act.put,List.setIfInBounds_toArray,List.set_cons_zero,List.set_cons_succ]
     refine wpAnyH_take (i:=18) (oi:={dst:=some 74,op:=Op.indexAddr 46 (Operand.tmp 73) (Operand.const (Value.int IntKind.i64 4)),type:=0,pos:="ref.go:58",after:=#[{on:=17,ground:=Ground.data}],guard:=none}) (v:=.pointer (some ⟨gN,4,none⟩)) rfl (by kernel_rfl) (by kernel_rfl) (by kernel_rfl) (λ _ _ _ h=>h) (Or.inl ⟨by rfl,λ Y hY=>by (try dsimp only at hY);go_simp⟩) hS ?_
     simp only [Act.put,List.setIfInBounds_toArray,List.set_cons_zero,List.set_cons_succ]
     refine wpAnyH_take (i:=19) (oi:={dst:=some 75,op:=Op.load 45 (Operand.tmp 74),type:=45,pos:="ref.go:58",after:=#[{on:=18,ground:=Ground.data}],guard:=none}) (v:=.int .u64 X.e) rfl (by kernel_rfl) (by kernel_rfl) (by kernel_rfl) (λ _ _ _ h=>h) (Or.inl ⟨by rfl,λ Y hY=>by (try dsimp only at hY);go_simp⟩) hS ?_
     simp only [Act.put,List.setIfInBounds_toArray,List.set_cons_zero,List.set_cons_succ]
     refine wpAnyH_take (i:=20) (oi:={dst:=some 76,op:=Op.convert 45 50 (Operand.tmp 75),type:=50,pos:="ref.go:58",after:=#[{on:=19,ground:=Ground.data}],guard:=none}) (v:=.int .u16 X.e) rfl (by kernel_rfl) (by kernel_rfl) (by kernel_rfl) (λ _ _ _ h=>h) (Or.inl ⟨by rfl,λ Y hY=>by (try dsimp only at hY);go_simp⟩) hS ?_
     simp only [Act.put,List.setIfInBounds_toArray,List.set_cons_zero,List.set_cons_succ]
     refine wpAnyH_take (i:=21) (oi:={dst:=some 77,op:=Op.build 190 #[(0,Operand.tmp 61),(1,Operand.tmp 64),(2,Operand.tmp 68),(3,Operand.tmp 72),(4,Operand.tmp 76)],type:=190,pos:="ref.go:58",after:=#[{on:=5,ground:=Ground.data},{on:=8,ground:=Ground.data},{on:=12,ground:=Ground.data},{on:=16,ground:=Ground.data},{on:=20,ground:=Ground.data}],guard:=none}) (v:=.agg #[.int .u32 X.t,.int .u64 X.b,.int .u8 X.k,.int .u32 X.s,.int .u16 X.e]) rfl (by kernel_rfl) (by kernel_rfl) (by kernel_rfl) (λ _ _ _ h=>h) (Or.inl ⟨by rfl,λ Y hY=>by (try dsimp only at hY);go_simp⟩) hS ?_
     simp only [Act.put,List.setIfInBounds_toArray,List.set_cons_zero,List.set_cons_succ]
     refine wpAnyH_ready (rs:=[1,22]) (by kernel_rfl) (by simp) (AllReadyH.cons (o:={dst:=some 57,op:=Op.load 175 (Operand.tmp 56),type:=175,pos:="ref.go:58",after:=#[{on:=0,ground:=Ground.data}],guard:=none}) rfl (λ KK hK=>?ga) (AllReadyH.cons (o:={dst:=some 78,op:=Op.buildSlice 175 1 #[(0,Operand.tmp 77)],type:=175,pos:="ref.go:58",after:=#[{on:=21,ground:=Ground.data}],guard:=none}) rfl (λ KK hK=>?gb) AllReadyH.nil))
     case ga=>
      go_simp
      refine hK.out _ _ ⟨n0,n1,n2,n3,n4⟩ (λ hS1=>?_)
      clear hK KK;try simp only [Act.put,List.setIfInBounds_toArray,List.set_cons_zero,List.set_cons_succ]
      refine wpAnyH_ready (rs:=[22]) (by kernel_rfl) (by simp) (AllReadyH.cons (o:={dst:=some 78,op:=Op.buildSlice 175 1 #[(0,Operand.tmp 77)],type:=175,pos:="ref.go:58",after:=#[{on:=21,ground:=Ground.data}],guard:=none}) rfl (λ KK hK=>?_) AllReadyH.nil)
      go_simp
      refine hK.out _ _ ⟨p0 _,p1 _,p2 _,p3 _,p4 _⟩ (λ hS2=>?_)
      clear hK KK;try simp only [Act.put,List.setIfInBounds_toArray,List.set_cons_zero,List.set_cons_succ]
      refine wpAnyH_ready (rs:=[23]) (by kernel_rfl) (by simp) (AllReadyH.cons (o:={dst:=some 79,op:=Op.call {callee:=Callee.builtin Builtin.append,args:=#[Operand.tmp 57,Operand.tmp 78],argTypes:=#[175,175]},type:=175,pos:="ref.go:58",after:=#[{on:=1,ground:=Ground.data},{on:=22,ground:=Ground.data}],guard:=none}) rfl (λ KK hK=>?_) AllReadyH.nil)
      refine Qaq rfl (.tmp 57) (.tmp 78) 175 175 rfl _ _ rfl rfl _ _ e9 ?_
      refine hK.out _ _ ⟨r0,r1,r2,r3,r4⟩ (λ hS3=>?_)
      clear hK KK;try simp only [Act.put,List.setIfInBounds_toArray,List.set_cons_zero,List.set_cons_succ]
      refine wpAnyH_take (i:=24) (oi:={dst:=some 80,op:=Op.fieldAddr 177 (Operand.tmp 7) 1,type:=0,pos:="ref.go:58",after:=#[{on:=0,ground:=Ground.phase},{on:=1,ground:=Ground.phase},{on:=2,ground:=Ground.phase},{on:=3,ground:=Ground.phase},{on:=4,ground:=Ground.phase},{on:=5,ground:=Ground.phase},{on:=6,ground:=Ground.phase},{on:=7,ground:=Ground.phase},{on:=8,ground:=Ground.phase},{on:=9,ground:=Ground.phase},{on:=10,ground:=Ground.phase},{on:=11,ground:=Ground.phase},{on:=12,ground:=Ground.phase},{on:=13,ground:=Ground.phase},{on:=14,ground:=Ground.phase},{on:=15,ground:=Ground.phase},{on:=16,ground:=Ground.phase},{on:=17,ground:=Ground.phase},{on:=18,ground:=Ground.phase},{on:=19,ground:=Ground.phase},{on:=20,ground:=Ground.phase},{on:=21,ground:=Ground.phase},{on:=22,ground:=Ground.phase},{on:=23,ground:=Ground.phase}],guard:=none}) (v:=.pointer (some ⟨q5,1,none⟩)) rfl (by kernel_rfl) (by kernel_rfl) (by kernel_rfl) (λ _ _ _ h=>h) (Or.inl ⟨by rfl,λ Y hY=>by (try dsimp only at hY);go_simp⟩) hS3 ?_
      simp only [Act.put,List.setIfInBounds_toArray,List.set_cons_zero,List.set_cons_succ]
      refine wpAnyH_ready (rs:=[25]) (by kernel_rfl) (by simp) (AllReadyH.cons (o:={dst:=none,op:=Op.store 175 (Operand.tmp 80) (Operand.tmp 79),type:=0,pos:="ref.go:58",after:=#[{on:=24,ground:=Ground.data},{on:=23,ground:=Ground.data},{on:=23,ground:=Ground.chain},{on:=0,ground:=Ground.phase},{on:=1,ground:=Ground.phase},{on:=2,ground:=Ground.phase},{on:=3,ground:=Ground.phase},{on:=4,ground:=Ground.phase},{on:=5,ground:=Ground.phase},{on:=6,ground:=Ground.phase},{on:=7,ground:=Ground.phase},{on:=8,ground:=Ground.phase},{on:=9,ground:=Ground.phase},{on:=10,ground:=Ground.phase},{on:=11,ground:=Ground.phase},{on:=12,ground:=Ground.phase},{on:=13,ground:=Ground.phase},{on:=14,ground:=Ground.phase},{on:=15,ground:=Ground.phase},{on:=16,ground:=Ground.phase},{on:=17,ground:=Ground.phase},{on:=18,ground:=Ground.phase},{on:=19,ground:=Ground.phase},{on:=20,ground:=Ground.phase},{on:=21,ground:=Ground.phase},{on:=22,ground:=Ground.phase},{on:=23,ground:=Ground.phase}],guard:=none}) rfl (λ KK hK=>?_) AllReadyH.nil)
      go_simp
      refine hK.out _ _ ⟨t0,t1,t2,t3,t4⟩ (λ hS4=>?_)
      clear hK KK;try simp only [Act.put,List.setIfInBounds_toArray,List.set_cons_zero,List.set_cons_succ]
      refine wpAnyH_done (by kernel_rfl) ?_ _
      clear e9 m4 m5 n0 n1 n2 n3 n4 m1 m2 u0 u2 u3 u4 r0 r1 r2 r3 r4 t0 t1 t2 t3 t4 p0 p1 p2 p3 p4 hS hS1 hS2 hS3 hS4;generalize World.setCell w9 _ _=V9 at H9 ⊢;go_wp2
      go_roundw
      case rel=>exact ⟨i+1,a9,c9,R2,m - 19,F2,by simp,rfl,by omega,by have:=(J5 HT);have:=(Jz5 HT);omega,H9.out⟩
      case measure=>simp [intOf];omega
     case gb=>
      go_simp
      refine hK.out _ _ ⟨p0 _,p1 _,p2 _,p3 _,p4 _⟩ (λ hS1=>?_)
      clear hK KK;try simp only [Act.put,List.setIfInBounds_toArray,List.set_cons_zero,List.set_cons_succ]
      refine wpAnyH_ready (rs:=[1]) (by kernel_rfl) (by simp) (AllReadyH.cons (o:={dst:=some 57,op:=Op.load 175 (Operand.tmp 56),type:=175,pos:="ref.go:58",after:=#[{on:=0,ground:=Ground.data}],guard:=none}) rfl (λ KK hK=>?_) AllReadyH.nil)
      go_simp
      refine hK.out _ _ ⟨p0 _,p1 _,p2 _,p3 _,p4 _⟩ (λ hS2=>?_)
      clear hK KK;try simp only [Act.put,List.setIfInBounds_toArray,List.set_cons_zero,List.set_cons_succ]
      refine wpAnyH_ready (rs:=[23]) (by kernel_rfl) (by simp) (AllReadyH.cons (o:={dst:=some 79,op:=Op.call {callee:=Callee.builtin Builtin.append,args:=#[Operand.tmp 57,Operand.tmp 78],argTypes:=#[175,175]},type:=175,pos:="ref.go:58",after:=#[{on:=1,ground:=Ground.data},{on:=22,ground:=Ground.data}],guard:=none}) rfl (λ KK hK=>?_) AllReadyH.nil)
      refine Qaq rfl (.tmp 57) (.tmp 78) 175 175 rfl _ _ rfl rfl _ _ e9 ?_
      refine hK.out _ _ ⟨r0,r1,r2,r3,r4⟩ (λ hS3=>?_)
      clear hK KK;try simp only [Act.put,List.setIfInBounds_toArray,List.set_cons_zero,List.set_cons_succ]
      refine wpAnyH_take (i:=24) (oi:={dst:=some 80,op:=Op.fieldAddr 177 (Operand.tmp 7) 1,type:=0,pos:="ref.go:58",after:=#[{on:=0,ground:=Ground.phase},{on:=1,ground:=Ground.phase},{on:=2,ground:=Ground.phase},{on:=3,ground:=Ground.phase},{on:=4,ground:=Ground.phase},{on:=5,ground:=Ground.phase},{on:=6,ground:=Ground.phase},{on:=7,ground:=Ground.phase},{on:=8,ground:=Ground.phase},{on:=9,ground:=Ground.phase},{on:=10,ground:=Ground.phase},{on:=11,ground:=Ground.phase},{on:=12,ground:=Ground.phase},{on:=13,ground:=Ground.phase},{on:=14,ground:=Ground.phase},{on:=15,ground:=Ground.phase},{on:=16,ground:=Ground.phase},{on:=17,ground:=Ground.phase},{on:=18,ground:=Ground.phase},{on:=19,ground:=Ground.phase},{on:=20,ground:=Ground.phase},{on:=21,ground:=Ground.phase},{on:=22,ground:=Ground.phase},{on:=23,ground:=Ground.phase}],guard:=none}) (v:=.pointer (some ⟨q5,1,none⟩)) rfl (by kernel_rfl) (by kernel_rfl) (by kernel_rfl) (λ _ _ _ h=>h) (Or.inl ⟨by rfl,λ Y hY=>by (try dsimp only at hY);go_simp⟩) hS3 ?_
      simp only [Act.put,List.setIfInBounds_toArray,List.set_cons_zero,List.set_cons_succ]
      refine wpAnyH_ready (rs:=[25]) (by kernel_rfl) (by simp) (AllReadyH.cons (o:={dst:=none,op:=Op.store 175 (Operand.tmp 80) (Operand.tmp 79),type:=0,pos:="ref.go:58",after:=#[{on:=24,ground:=Ground.data},{on:=23,ground:=Ground.data},{on:=23,ground:=Ground.chain},{on:=0,ground:=Ground.phase},{on:=1,ground:=Ground.phase},{on:=2,ground:=Ground.phase},{on:=3,ground:=Ground.phase},{on:=4,ground:=Ground.phase},{on:=5,ground:=Ground.phase},{on:=6,ground:=Ground.phase},{on:=7,ground:=Ground.phase},{on:=8,ground:=Ground.phase},{on:=9,ground:=Ground.phase},{on:=10,ground:=Ground.phase},{on:=11,ground:=Ground.phase},{on:=12,ground:=Ground.phase},{on:=13,ground:=Ground.phase},{on:=14,ground:=Ground.phase},{on:=15,ground:=Ground.phase},{on:=16,ground:=Ground.phase},{on:=17,ground:=Ground.phase},{on:=18,ground:=Ground.phase},{on:=19,ground:=Ground.phase},{on:=20,ground:=Ground.phase},{on:=21,ground:=Ground.phase},{on:=22,ground:=Ground.phase},{on:=23,ground:=Ground.phase}],guard:=none}) rfl (λ KK hK=>?_) AllReadyH.nil)
      go_simp
      refine hK.out _ _ ⟨t0,t1,t2,t3,t4⟩ (λ hS4=>?_)
      clear hK KK;try simp only [Act.put,List.setIfInBounds_toArray,List.set_cons_zero,List.set_cons_succ]
      refine wpAnyH_done (by kernel_rfl) ?_ _
      clear e9 m4 m5 n0 n1 n2 n3 n4 m1 m2 u0 u2 u3 u4 r0 r1 r2 r3 r4 t0 t1 t2 t3 t4 p0 p1 p2 p3 p4 hS hS1 hS2 hS3 hS4;generalize World.setCell w9 _ _=V9 at H9 ⊢;go_wp2
      go_roundw
      case rel=>exact ⟨i+1,a9,c9,R2,m - 19,F2,by simp,rfl,by omega,by have:=(J5 HT);have:=(Jz5 HT);omega,H9.out⟩
      case measure=>simp [intOf];omega
    ·obtain rfl:i=N:=by omega
     have k0:wr.cell? ⟨q5,0,none⟩=some (.int .u64 S):=st.rc.cell 0;have k1:wr.cell? ⟨q5,1,none⟩=some (.slice A i C'):=st.rc.cell 1;have hits:ItsIn wr A i (Qb8 bs):=by rw [(J3 HF)];exact Qls st.own (by unfold maxLen;omega) (J4 HF)
     have HT:Hid (DdSt q w wr q5 g S i A i C' (rdL i (bs.drop 18)) L m c' (bs.drop (18+19*i))/\ItsIn wr A i (Qb8 bs)):=⟨st,hits⟩
     clear st hits;go_wp2_with fail
     refine (Qtg S A i C' (Qb8 bs) (n:Int) wr (Jz8 HF) HT.out.2).mono ?_
     rintro e W6 ⟨A6,n6,C6,rfl,ow6,b6⟩;have st6:=HT.out.1.below b6;have d0:W6.cell? ⟨q,0,none⟩=some (.int .u64 0):=st6.res.cell 0;have d1:W6.cell? ⟨q,1,none⟩=some (.slice none 0 0):=st6.res.cell 1;have z0:=st6.res.frozen 0;have z1:=st6.res.frozen 1;have p0:W6.cell? ⟨q5,0,none⟩=some (.int .u64 S):=st6.rc.cell 0;have p1:W6.cell? ⟨q5,1,none⟩=some (.slice A i C'):=st6.rc.cell 1;have hbad:Hid (¬IsR bs->Blk ((W6.setCell ⟨q,0,none⟩ (.int .u64 0)).setCell ⟨q,1,none⟩ (.slice none 0 0)) q [.int .u64 0,.slice none 0 0] 177/\DDec w bs (.returned (.tuple #[.agg #[.int .u64 0,.slice none 0 0],.int .i64 111])) ((W6.setCell ⟨q,0,none⟩ (.int .u64 0)).setCell ⟨q,1,none⟩ (.slice none 0 0))):=λ hno=>Qpu (Jz3 H) st6.res st6.bel hno
     have H6:Hid (DdSt q w W6 q5 g S i A i C' (rdL i (bs.drop 18)) L m c' (bs.drop (18+19*i))):=st6;clear st6 k0 k1 cn;by_cases hgd:GoodR (Qb8 bs) (n:Int)
     ·have e1:encE (Qb8 bs) (n:Int)=0:=by unfold encE;rw [if_pos hgd]
      have e2:encB S (Qb8 bs) (n:Int)=encL S (Qb8 bs) n:=by unfold encB;rw [if_pos hgd,Int.toNat_natCast]
      rw [e1];rw [e2] at ow6;have hle:(encL S (Qb8 bs) n).length=n:=Qfm (by have:=hgd.bounds;omega);have hn6:n6=n:=by have:=ow6.1;rw [Qah,hle] at this;omega
      obtain ⟨zs,hzs⟩:∃zs,zs=encL S (Qb8 bs) n:=⟨_,rfl⟩
      rw [<-hzs] at ow6;have hzf:∀z∈zs,Qaf z:=by rw [hzs];exact Qk9 _ _ _
      have s1:=Qh0 W6 A6 n6 C6 zs (Qcf ow6 (by unfold maxLen;omega) hzf);have s2:=Qh0 W6 a n c bs ((H.out.1.below (by rw [<-(Jz3 H)];exact H6.out.bel)));have HZ:Hid (zs=encL S (Qb8 bs) n/\GoodR (Qb8 bs) (n:Int)):=⟨hzs,hgd⟩
      by_cases heq:zs=bs
      ·have hy:IsR bs:=⟨by rw [(J5 HF)];exact HZ.out.2,by rw [(J5 HF),<-HF.out.1,<-HZ.out.1];exact heq⟩
       have hlt5:=H6.out.lt;have HE:Hid (Blk ((W6.setCell ⟨q,0,none⟩ (.int .u64 S)).setCell ⟨q,1,none⟩ (.slice A i C')) q [.int .u64 S,.slice A i C'] 177/\DDec w bs (.returned (.tuple #[.agg #[.int .u64 S,.slice A i C'],.int .i64 0])) ((W6.setCell ⟨q,0,none⟩ (.int .u64 S)).setCell ⟨q,1,none⟩ (.slice A i C'))):=by
        refine ⟨(H6.out.res.set 0 _).set 1 _,?_⟩
        rw [HF.out.1];refine Q0m (by rw [<-(Jz3 H)];exact (H6.out.bel.setCell (p:=⟨q,0,none⟩) (Nat.le_refl _) _).setCell (p:=⟨q,1,none⟩) (Nat.le_refl _) _) hy ?_ ?_
        ·rw [(J3 HF)]
         exact Qls (Qbj (Qbj H6.out.own (by show q<q5+1;omega) _) (by show q<q5+1;omega) _) (by unfold maxLen;omega) (J4 HF)
        ·intro hn y hy2
         have h1:=Qn4 H6.out.own hn y hy2;have h2:=(Jz3 H)
         omega
       rw [heq] at s1;clear hgd e1 e2 ow6 hle hn6 hzs hzf hy heq;go_wp2
       exact bodyPost_ret (Qad (p:=2) (u:=3) (ty:=177) rfl _ _ q _ _ _ rfl HE.out.1 Tryz.underlying177 rfl Tryz.info_record _ rfl) rfl HE.out.2
      ·have hno:¬IsR bs:=λ h=>heq (by have h2:=h.2;rw [(J5 HF),<-HF.out.1,<-HZ.out.1] at h2;exact h2)
       have HE:=hbad.out hno;have h3:=Qi8 hzf H.out.1.2.2.1 heq;have HE:Hid (Blk ((W6.setCell ⟨q,0,none⟩ (.int .u64 0)).setCell ⟨q,1,none⟩ (.slice none 0 0)) q [.int .u64 0,.slice none 0 0] 177/\DDec w bs (.returned (.tuple #[.agg #[.int .u64 0,.slice none 0 0],.int .i64 111])) ((W6.setCell ⟨q,0,none⟩ (.int .u64 0)).setCell ⟨q,1,none⟩ (.slice none 0 0))):=hbad.out hno;clear hgd e1 e2 ow6 hle hn6 hzs hzf hno heq;go_wp2
       exact bodyPost_ret (Qad (p:=2) (u:=3) (ty:=177) rfl _ _ q _ _ _ rfl HE.out.1 Tryz.underlying177 rfl Tryz.info_record _ rfl) rfl HE.out.2
     ·have e1:encE (Qb8 bs) (n:Int)=110:=by unfold encE;rw [if_neg hgd]
      rw [e1];have hno:¬IsR bs:=λ h=>hgd (by have h2:=h.1;rw [(J5 HF)] at h2;exact h2)
      have HE:Hid (Blk ((W6.setCell ⟨q,0,none⟩ (.int .u64 0)).setCell ⟨q,1,none⟩ (.slice none 0 0)) q [.int .u64 0,.slice none 0 0] 177/\DDec w bs (.returned (.tuple #[.agg #[.int .u64 0,.slice none 0 0],.int .i64 111])) ((W6.setCell ⟨q,0,none⟩ (.int .u64 0)).setCell ⟨q,1,none⟩ (.slice none 0 0))):=hbad.out hno;clear hgd e1 ow6 hno;go_wp2
      exact bodyPost_ret (Qad (p:=2) (u:=3) (ty:=177) rfl _ _ q _ _ _ rfl HE.out.1 Tryz.underlying177 rfl Tryz.info_record _ rfl) rfl HE.out.2
end
end Go.Proofs.YtcdnjeiamihhbaaGreat
namespace Go.Proofs.YtcdnjeiamihhbaaGreat
open Go.RowKit Go.Sort
theorem Qli {w:World} (a:Option Addr) (n c:Nat) (zs:List Int) (h:BIn w a n zs) (d:Nat) (os:Array Obj):Calls prog 161 #[.slice a n c] (grow (redrawn w d) os) λ e w''=>e=.returned (.int .i64 (Qdl zs:Nat))/\∃p:Regrown,w''=grow (redrawn w p.d) p.os:=
 Calls.regrown_of ((Qze a n c zs _ (h.below (below_regrown w d os))).mono λ e w' h=>⟨h.1,by rw [h.2];exact Below.refl _ _⟩)
theorem Qmr {w:World} (a:Option Addr) (n c:Nat) (zs:List Int) (h:BIn w a n zs) (d:Nat) (os:Array Obj):Calls prog 160 #[.slice a n c] (grow (redrawn w d) os) λ e w''=>e=.returned (.int .u32 (crI 0 zs))/\∃p:Regrown,w''=grow (redrawn w p.d) p.os:=
 Calls.regrown_of ((Qhd a n c zs _ (h.below (below_regrown w d os))).mono λ e w' h=>⟨h.1,by rw [h.2];exact Below.refl _ _⟩)
set_option maxHeartbeats 2000000 in
theorem Qvp (x:It) (a:Option Addr) (n c:Nat) (zs:List Int) (w:World) (hf:x.Fits) (h:BIn w a n zs) :
  Calls prog 100 #[.agg #[.int .u32 x.t,.int .u64 x.b,.int .u8 x.k,.int .u32 x.s,.int .u16 x.e],.slice a n c] w λ e w'=>e=.returned (.bool (Qb9 x zs))/\Below w.heap.size w w':=by
 obtain ⟨q,hq⟩:∃q,q=w.heap.size:=⟨_,rfl⟩
 have kb:Blk (w.alloc (.cells #[.int .u32 x.t,.int .u64 x.b,.int .u8 x.k,.int .u32 x.s,.int .u16 x.e] 190)) q (itL x) 190:=Blk.new' hq.symm rfl;have bw:Below w.heap.size w (w.alloc (.cells #[.int .u32 x.t,.int .u64 x.b,.int .u8 x.k,.int .u32 x.s,.int .u16 x.e] 190)):=(Below.refl _ _).alloc (Nat.le_refl _) _;obtain ⟨B,hB⟩:∃B,B=Qb9 x zs:=⟨_,rfl⟩
 have HB:=Jh1 hB;rw [<-hB];clear hB;have ue:IntKind.i64.wrap x.e=x.e:=by have:=hf.2.2.2.2;unfold Qb4 at this;rw [IntKind.wrap_i64];omega
 clear hf;go_enter func100,ntmps100
 go_upto_region 1 with fail
 rw [<-hq];generalize hW:World.alloc w _=W at kb bw ⊢;have H:=Jh3 kb bw (h.below bw);have c2:W.cell? ⟨q,2,none⟩=some (.int .u8 x.k):=kb.cell 2;have c3:W.cell? ⟨q,3,none⟩=some (.int .u32 x.s):=kb.cell 3;have c4:W.cell? ⟨q,4,none⟩=some (.int .u16 x.e):=kb.cell 4;obtain ⟨E,hE⟩:∃E,E=Qdl zs:=⟨_,rfl⟩
 obtain ⟨K,hK⟩:∃K,K=crI 0 zs:=⟨_,rfl⟩
 by_cases hk:x.k=1
 ·have hkb:(x.k == 1)=true:=by simp [hk]
  have cE:=λ d os=>Qli (c:=c) a n zs (Jz2 H) d os
  simp only [<-hE] at cE
  have cK:=λ d os=>Qmr (c:=c) a n zs (Jz2 H) d os
  simp only [<-hK] at cK
  have k2:=λ d os=>cell_regrown c2 d os
  have k3:=λ d os=>cell_regrown c3 d os
  have k4:=λ d os=>cell_regrown c4 d os
  by_cases hs:x.s=K
  ·have hsb:(x.s == K)=true:=by simp [hs]
   have hf:B=(x.e == (E:Int)):=by
    rw [HB.out];unfold Qb9;rw [<-hE,<-hK];by_cases he:x.e=(E:Int) <;> simp [hk,he,hs]
   have HBB:=Jh1 hf;clear HB hE hK hk hs hf kb bw hW h hq;refine wp_region_quiet_below (by kernel_rfl) (by kernel_rfl) ?_
   iterate 7 (quiet_step (fail))
   quiet_step (exact cK _ _)
   iterate 7 (quiet_step (fail))
   quiet_step (exact cE _ _)
   iterate 3 (quiet_step (fail))
   refine wpQuiet_nil ?_
   intro _ hw';obtain ⟨⟨dq,osq⟩,hw''⟩:=hw';subst hw'';go_wp2
   go_ret
   exact ⟨by rw [HBB.out];rfl,(J2 H).trans ((below_regrown W dq osq).mono (J2 H).size)⟩
  ·have hsb:(x.s == K)=false:=by simp [hs]
   have hf:B=false:=by rw [HB.out];unfold Qb9;rw [<-hK];simp [hs]
   clear HB hE hK hk hs kb bw hW h hq;subst hf;refine wp_region_quiet_below (by kernel_rfl) (by kernel_rfl) ?_
   iterate 7 (quiet_step (fail))
   quiet_step (exact cK _ _)
   iterate 11 (quiet_step (fail))
   refine wpQuiet_nil ?_
   intro _ hw';obtain ⟨⟨dq,osq⟩,hw''⟩:=hw';subst hw'';go_wp2
   go_ret
   exact ⟨rfl,(J2 H).trans ((below_regrown W dq osq).mono (J2 H).size)⟩
 ·have hkb:(x.k == 1)=false:=by simp [hk]
  have hf:B=false:=by rw [HB.out];unfold Qb9;simp [hk]
  clear HB hE hK hk kb bw hW h hq;subst hf;go_quiet (fail)
  go_wp2
  go_ret
  exact ⟨rfl,Go.below_drewN (J2 H) _⟩
end Go.Proofs.YtcdnjeiamihhbaaGreat
namespace Go.Proofs.YtcdnjeiamihhbaaGreat
open Go.RowKit


end Go.Proofs.YtcdnjeiamihhbaaGreat
namespace Go.Proofs.YtcdnjeiamihhbaaGreat
def stZ (L:List Int) (z:Int):Int:=if 0<=z then L.getD z.toNat 0 else 0
def Qcm (L:List Int) (z a b:Int):List Int:=if stZ L z=a then L.set z.toNat b else L
def Qba (L:List Int) (a:Int):Nat:=L.findIdx (λ x=>x == a)
def Qja (L:List Int):List Int:=if Qba L 1<L.length then L.set (Qba L 1) 2 else L
def Qo8 (L:List Int):Int:=if Qba L 1<L.length then Qba L 1 else 0
def Qng (L:List Int):Bool:=decide (Qba L 1<L.length)
def Qau (L:List Int) (a:Int):Nat->List Int
 | 0=>[]
 | k+1=>if L.getD k 0=a then Qau L a k ++ [(k:Int)] else Qau L a k
def Qfy (L:List Int) (a:Int):List Int:=Qau L a L.length
def cntZ (L:List Int) (a:Int):Nat:=(Qfy L a).length
def lowB (L:List Int) (r:Int):Bool:=decide ((cntZ L 1:Int)<=r)
def newZ (n:Nat):List Int:=4 :: 4 :: List.replicate (n - 2) 1
theorem Qwq {L:List Int} {i:Nat} (h:i<L.length):L.getD i 0=L[i]:=by simp [List.getD,h]
theorem Qzu {L:List Int} {i:Nat} (h:L.length<=i):L.getD i 0=0:=by simp [List.getD,List.getElem?_eq_none h]
theorem Qf3 (L:List Int) (i:Nat):stZ L i=L.getD i 0:=by simp [stZ]
theorem Qey {L:List Int} {z:Int} (h:z<0\/(L.length:Int)<=z):stZ L z=0:=by
 unfold stZ;split
 ·exact Qzu (by omega)
 ·rfl
theorem Q0v {L:List Int} {z a:Int} (h:stZ L z=a) (ha:a≠0):0<=z/\z<L.length:=by
 rcases Int.lt_or_le z 0 with h0 | h0
 ·exact absurd (h.symm.trans (Qey (.inl h0))) ha
 ·rcases Int.lt_or_le z L.length with h1 | h1
  ·exact ⟨h0,h1⟩
  ·exact absurd (h.symm.trans (Qey (.inr h1))) ha
theorem Qbz (L:List Int) (z a b:Int):(Qcm L z a b).length=L.length:=by unfold Qcm;split <;> simp
theorem Qe9 (L:List Int):(Qja L).length=L.length:=by unfold Qja;split <;> simp
theorem Qcq {n:Nat} (h:2<=n):(newZ n).length=n:=by simp [newZ];omega
theorem Qrs (L:List Int) (a:Int):Qba L a<=L.length:=List.findIdx_le_length
theorem Qg1 {L:List Int} {a:Int} (h:Qba L a<L.length):L.getD (Qba L a) 0=a:=by
 have e:(L[Qba L a]'h == a)=true:=List.findIdx_getElem (w:=h);rw [Qwq h];simpa using e
theorem Qvo {L:List Int} {a:Int} {i:Nat} (h:i<Qba L a):L.getD i 0≠a:=by
 have hl:i<L.length:=Nat.lt_of_lt_of_le h (Qrs L a);have:=List.not_of_lt_findIdx h;rw [Qwq hl];intro e;simp [e] at this
theorem Qxl {L:List Int} {a:Int} {i:Nat} (hl:i<L.length) (hi:L.getD i 0=a) (hn:∀j,j<i->L.getD j 0≠a):Qba L a=i:=by
 rcases Nat.lt_trichotomy (Qba L a) i with h | h | h
 ·exact absurd (Qg1 (by omega)) (hn _ h)
 ·exact h
 ·exact absurd hi (Qvo h)
theorem Qst {L:List Int} {a:Int} (hn:∀j,j<L.length->L.getD j 0≠a):Qba L a=L.length:=by
 rcases Nat.lt_or_ge (Qba L a) L.length with h | h
 ·exact absurd (Qg1 h) (hn _ h)
 ·have:=Qrs L a;omega
theorem Qr7 (L:List Int) (i j:Nat) (b:Int) (hi:i<L.length):(L.set i b).getD j 0=if j=i then b else L.getD j 0:=by
 by_cases h:j=i
 ·subst h;simp [List.getD,hi]
 ·simp [List.getD,h,List.getElem?_set_ne (Ne.symm h)]
theorem Qu5 (L:List Int):Qja L=if Qba L 1<L.length then Qcm L (Qba L 1) 1 2 else L:=by
 unfold Qja;split
 ·rename_i h
  unfold Qcm;rw [Qf3,if_pos (Qg1 h)];simp
 ·rfl
theorem Qc2 (L:List Int) (a:Int):∀k,(Qau L a k).length<=k
 | 0=>Nat.le_refl _
 | k+1=>by
  have:=Qc2 L a k;unfold Qau;split
  ·simp;omega
  ·omega
theorem Qb0 (L:List Int) (a:Int) (k:Nat):Qau L a (k+1)=if L.getD k 0=a then Qau L a k ++ [(k:Int)] else Qau L a k:=rfl
theorem Qky {L:List Int} {a:Int}:∀{k:Nat} {x:Int},x∈Qau L a k↔∃i,i<k/\L.getD i 0=a/\x=i
 | 0,x=>by simp [Qau]
 | k+1,x=>by
  have ih:=Qky (L:=L) (a:=a) (k:=k) (x:=x);unfold Qau;split
  ·rename_i h
   rw [List.mem_append,ih,List.mem_singleton];constructor
   ·rintro (⟨i,h1,h2,h3⟩ | rfl)
    ·exact ⟨i,by omega,h2,h3⟩
    ·exact ⟨k,by omega,h,rfl⟩
   ·rintro ⟨i,h1,h2,h3⟩
    rcases Nat.lt_or_ge i k with h4 | h4
    ·exact .inl ⟨i,h4,h2,h3⟩
    ·have:i=k:=by omega
     subst this;exact .inr h3
  ·rename_i h
   rw [ih];constructor
   ·rintro ⟨i,h1,h2,h3⟩;exact ⟨i,by omega,h2,h3⟩
   ·rintro ⟨i,h1,h2,h3⟩
    rcases Nat.lt_or_ge i k with h4 | h4
    ·exact ⟨i,h4,h2,h3⟩
    ·have:i=k:=by omega
     subst this;exact absurd h2 h
theorem Qwe {L:List Int} {a:Int} {z:Nat} {b:Int} (hz:z<L.length):∀k,(Qau (L.set z b) a k).length+(if z<k/\L.getD z 0=a then 1 else 0)=(Qau L a k).length+(if z<k/\b=a then 1 else 0)
 | 0=>by simp [Qau]
 | k+1=>by
  have ih:=Qwe (a:=a) (b:=b) hz k;have e:=Qr7 L z k b hz;rw [Qb0,Qb0,e];rcases Nat.lt_trichotomy z k with h | h | h
  ·have h':z<k+1:=by omega
   have hk:¬k=z:=by omega
   simp only [h,h',hk,true_and,if_false] at ih ⊢
   by_cases h1:L.getD k 0=a
   ·simp only [h1,if_true,List.length_append,List.length_singleton];omega
   ·simp only [h1,if_false];exact ih
  ·subst h
   have h':z<z+1:=by omega
   simp only [Nat.lt_irrefl,false_and,if_false,Nat.add_zero] at ih
   simp only [h',true_and,if_true]
   by_cases h1:b=a
   ·subst h1
    by_cases h2:L.getD z 0=b
    ·simp only [h2,if_true,List.length_append,List.length_singleton];omega
    ·simp only [h2,if_true,if_false,List.length_append,List.length_singleton];omega
   ·by_cases h2:L.getD z 0=a
    ·simp only [h1,h2,if_true,if_false,List.length_append,List.length_singleton];omega
    ·simp only [h1,h2,if_false];omega
  ·have h0:¬z<k:=by omega
   have h':¬z<k+1:=by omega
   have hk:¬k=z:=by omega
   simp only [h0,h',hk,false_and,if_false,Nat.add_zero] at ih ⊢
   by_cases h1:L.getD k 0=a
   ·simp only [h1,if_true,List.length_append,List.length_singleton];omega
   ·simp only [h1,if_false];exact ih
theorem Qh8 {L:List Int} {z:Nat} {c b:Int} (a:Int) (hz:z<L.length) (hc:L.getD z 0=c):cntZ (L.set z b) a+(if c=a then 1 else 0)=cntZ L a+(if b=a then 1 else 0):=by
 have:=Qwe (a:=a) (b:=b) hz L.length;unfold cntZ Qfy;rw [List.length_set];simp only [hz,true_and,hc] at this
 exact this
end Go.Proofs.YtcdnjeiamihhbaaGreat

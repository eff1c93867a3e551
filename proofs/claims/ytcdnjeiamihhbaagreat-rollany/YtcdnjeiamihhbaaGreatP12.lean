/- P12 -/
import Derived.Deep.DeepCutAuto
import Derived.Test.YtcdnjeiamihhbaaGreatP11
import Derived.Test.YtcdnjeiamihhbaaGreatP10
set_option linter.unusedVariables false
set_option maxRecDepth 4000
open Go.Proofs.Tryz
namespace Go.Proofs.YtcdnjeiamihhbaaGreat
open Go.RowKit
section
theorem Qbi {w:World} {b1 b2 s1 s2:Nat} {t e:TypeId} {v u:Value} {n m:Nat} {xs ys:List Value} (h:w.ownsRow b1 t s1 v n xs) (k:w.ownsRow b2 e s2 u m ys) (hte:t≠e):v.ownBlock=none\/v.ownBlock≠u.ownBlock:=by
 rcases h.2 with ⟨hv,_⟩ | ⟨g,cap,cur,hv,hb,hg,_⟩
 ·left;rw [hv];rfl
 ·right
  rcases k.2 with ⟨hu,_⟩ | ⟨g',cap',cur',hu,hb',hg',_⟩
  ·rw [hv,hu];simp [Value.ownBlock]
  ·rw [hv,hu]
   intro e1;simp only [Value.ownBlock,Option.some.injEq] at e1
   subst e1;rw [hg] at hg';cases hg'
   exact hte rfl
theorem Qxv {W w':World} {o:Obj} {b1 b2 s1 s2:Nat} {t e:TypeId} {v u:Value} {n m:Nat} {xs ys:List Value} (h:W.ownsRow b1 t s1 v n xs) (k:W.ownsRow b2 e s2 u m ys) (hte:t≠e) (hg:(W.alloc o).grownBy w' u.ownBlock):w'.ownsRow b1 t s1 v n xs:=(h.alloc o).kept hg (Qbi (h.alloc o) (k.alloc o) hte)
def Qcr (w:World) (s:Sh) (l:List (List Int)) (e:Ending) (w':World):Prop:=
 ∃A n C,e=.returned (.tuple #[.agg #[.int .u64 (dkS s l),.slice A n C],.int .i64 (dkE s l)])/\KIn w' A n (dkX s l)/\n<=C/\Below w.heap.size w w'
theorem Qfb {q:Nat} {w V:World} {s:Sh} {l:List (List Int)} {q5:Nat} {seq:Int} {A:Option Addr} {N C:Nat} {xs:List Pl} (h:OSt q w V q5 s seq A N C xs) (hno:¬IsK s l) :
  Blk ((V.setCell ⟨q+1,0,none⟩ (.int .u64 0)).setCell ⟨q+1,1,none⟩ (.slice none 0 0)) (q+1) [.int .u64 0,.slice none 0 0] 82/\Qcr w s l (.returned (.tuple #[.agg #[.int .u64 0,.slice none 0 0],.int .i64 141])) ((V.setCell ⟨q+1,0,none⟩ (.int .u64 0)).setCell ⟨q+1,1,none⟩ (.slice none 0 0)):=by
 refine ⟨(h.res.set 0 _).set 1 _,none,0,0,?_⟩
 unfold dkS dkE dkX;rw [if_neg hno,if_neg hno,if_neg hno];have hq:=h.heap;exact ⟨rfl,Qfa _,Nat.le_refl _,by rw [<-hq];exact (h.bel.setCell (p:=⟨q+1,0,none⟩) (by show q<=q+1;omega) _).setCell (p:=⟨q+1,1,none⟩) (by show q<=q+1;omega) _⟩
theorem Q36 {bs:List Int} (h:26<=bs.length):Qcw bs hkW=[rkM bs,rkS bs,rkI bs,rkH bs,Qfp bs,rkN bs]/\Qei bs hkW=bs.drop 26:=by
 unfold Qcw Qei;rw [off_hk,if_pos h,if_pos h,Q0q];exact ⟨rfl,rfl⟩
theorem Q3d {ys:List Int} (h:16<=ys.length):Qcw ys plW=plV (rkP ys)/\Qei ys plW=ys.drop 16:=by
 unfold Qcw Qei;rw [off_pl,if_pos h,if_pos h,Q1b];exact ⟨rfl,rfl⟩
theorem Qzl {w:World} {base:Nat} {a:Option Addr} {n c:Nat} {zs:List Value} (h:w.ownsRow base 137 4 (.slice a n c) n zs):n<=c:=by
 rcases h.2 with ⟨hv,hn⟩ | ⟨g,cap,cur,hv,hb,hg,hc,_⟩
 ·omega
 ·cases hv;exact hc
theorem Q2o {q:Nat} {w V:World} {s:Sh} {l:List (List Int)} {A:Option Addr} {N C:Nat} {S:Int} {ps:List Pl} (h:OSt q w V (q+2) s S A N C ps) (hS:S=Qa0 l) (hps:ps=Qaw l) (hk:KIn V A N ps) (hy:IsK s l) :
  Blk ((V.setCell ⟨q+1,0,none⟩ (.int .u64 S)).setCell ⟨q+1,1,none⟩ (.slice A N C)) (q+1) [.int .u64 S,.slice A N C] 82/\Qcr w s l (.returned (.tuple #[.agg #[.int .u64 S,.slice A N C],.int .i64 0])) ((V.setCell ⟨q+1,0,none⟩ (.int .u64 S)).setCell ⟨q+1,1,none⟩ (.slice A N C)):=by
 refine ⟨(h.res.set 0 _).set 1 _,A,N,C,?_⟩
 unfold dkS dkE dkX;rw [if_pos hy,if_pos hy,if_pos hy,<-hS,<-hps];have hq:=h.heap;exact ⟨rfl,(hk.set (Qdo h.res) 0 _).set (Qdo (h.res.set 0 (.int .u64 S))) 1 _,Qzl h.own,by rw [<-hq];exact (h.bel.setCell (p:=⟨q+1,0,none⟩) (by show q<=q+1;omega) _).setCell (p:=⟨q+1,1,none⟩) (by show q<=q+1;omega) _⟩
structure DSt (q:Nat) (w wr:World) (s:Sh) (seq:Int) (A:Option Addr) (N C:Nat) (xs:List Pl) (g Ch:Nat) (hs:List Int) (R:Option Addr) (m F:Nat) (ys:List Int):Prop where
 o:OSt q w wr (q+2) s seq A N C xs
 hd:wr.ownsRow (q+3) 45 1 (.slice (some ⟨g,0,none⟩) 6 Ch) 6 (Qaj .u64 hs)
 rest:wr.ownsRow (q+3) 5 1 (.slice R m F) m (u8s ys)
section
variable {q:Nat} {w wr w':World} {s:Sh} {seq:Int} {A:Option Addr} {N C:Nat} {xs:List Pl} {g Ch:Nat} {hs:List Int} {R:Option Addr} {m F:Nat} {ys:List Int}
theorem DSt.below (h:DSt q w wr s seq A N C xs g Ch hs R m F ys) (hb:Below wr.heap.size wr w'):DSt q w w' s seq A N C xs g Ch hs R m F ys:=⟨h.o.below hb,Qgm h.hd hb,Qgm h.rest hb⟩
theorem DSt.left (h:DSt q w wr s seq A N C xs g Ch hs R m F ys) {R':Option Addr} {m' F':Nat} {ys':List Int} (hr:wr.ownsRow (q+3) 5 1 (.slice R' m' F') m' (u8s ys')):DSt q w wr s seq A N C xs g Ch hs R' m' F' ys':=⟨h.o,h.hd,hr⟩
theorem DSt.more {A':Option Addr} {C':Nat} {x:Pl} {o:Obj} (h:DSt q w wr s seq A N C xs g Ch hs R m F ys) (ho:w'.ownsRow (q+3) 137 4 (.slice A' (N+1) C') (N+1) (plC (xs ++ [x]))) (hb:Below (q+3) wr w') (hg:(wr.alloc o).grownBy w' (Value.ownBlock (.slice A N C))):DSt q w (w'.setCell ⟨q+2,1,none⟩ (.slice A' (N+1) C')) s seq A' (N+1) C' (xs ++ [x]) g Ch hs R m F ys:=by
 have rc':=h.o.rc.below hb (by omega);have h1:=(h.hd.alloc o).kept hg (Qbi (h.hd.alloc o) (h.o.own.alloc o) (by decide));have h2:=(h.rest.alloc o).kept hg (Qbi (h.rest.alloc o) (h.o.own.alloc o) (by decide));exact ⟨h.o.more ho hb,Qdi rc' (by decide) h1 1 _,Qdi rc' (by decide) h2 1 _⟩
theorem DSt.at5 {a0 a1 a2 a3 a4 a5:Int} (h:DSt q w wr s seq A N C xs g Ch [a0,a1,a2,a3,a4,a5] R m F ys):wr.cell? ⟨g,5,none⟩=some (.int .u64 a5):=(h.hd.cellAt 5 (by decide)).trans rfl
end
set_option maxHeartbeats 4000000 in
theorem Qop (s:Sh) (a:Option Addr) (n c:Nat) (l:List (List Int)) (w:World) (hz:-9223372036854775808<=s.z) (hl:BsIn w a n l) (hn:n<=5000) (hb:∀b∈l,b.length<=5000) :
  Calls prog 162 #[.agg (shL s).toArray,.slice a n c] w (Qcr w s l):=by
 obtain ⟨q,hq⟩:∃q,q=w.heap.size:=⟨_,rfl⟩
 have H0:Hid (OSt q w (((w.alloc (.cells #[.int .i64 s.z,.int .i64 s.zb,.int .i64 s.b,.int .i64 s.r] 23)).alloc (.cells #[.int .u64 0,.slice none 0 0] 82)).alloc (.cells #[.int .u64 0,.slice none 0 0] 82)) (q+2) s 0 none 0 0 []):=
  ⟨((Blk.new' hq.symm rfl).alloc _).alloc _,(Blk.new' (by simp [hq]) rfl).alloc _,Blk.new' (by simp [hq]) rfl,World.ownsRow_nil _ _ _ _,(((Below.refl q w).alloc (by omega) _).alloc (by simp [hq]) _).alloc (by simp [hq];omega) _,Nat.le_refl _,hq⟩
 have H:Hid (BsIn w a n l/\q=w.heap.size/\-9223372036854775808<=s.z/\(∀b∈l,b.length<=5000)/\∀b∈l,∀z∈b,Qaf z):=⟨hl,hq,hz,hb,Ql7 hl⟩
 clear hl hz hb;simp only [shL]
 go_enter func162,ntmps162
 go_upto_region 2 with fail
 rw [<-hq];have e2:q+1+1=q+2:=rfl;rw [e2];clear hq e2;generalize hW:World.alloc (World.alloc (World.alloc w _) _) _=W at H0 ⊢;clear hW;go_wp2
 go_loopw [7] (λ x wr=>∃(i:Nat) (A:Option Addr) (N C:Nat),x=.int .i64 i/\i<=n/\OSt q w wr (q+2) s (Qa0 (l.take i)) A N C (Qaw (l.take i))/\N<=312*i) (λ x _=>n - (intOf x).toNat)
 case atStart=>exact ⟨0,none,0,0,rfl,Nat.zero_le _,H0.out,Nat.zero_le _⟩
 case round=>
  obtain ⟨i,A,N,C,rfl,hi,st,hN⟩:=hrel;rcases Nat.lt_or_ge i n with hlt | hge
  ·obtain ⟨D,hD⟩:∃D,l[i]?=some D:=⟨l[i]'(by have:=H.out.1.1;omega),by simp⟩
   have hDm:=List.mem_of_getElem? hD;have blw:Below w.heap.size w wr:=by rw [<-(J2 H)];exact st.bel
   obtain ⟨b',off,A1,L1,C1,ha,cD,hBI,hnil,hcap,_⟩:=(H.out.1.below blw).at hD;subst ha;have hD5:=(J4 H) D hDm;have hDf:=(Jz4 H) D hDm;obtain ⟨S0,hS0⟩:∃S0,S0=Qa0 (l.take i):=⟨_,rfl⟩
   obtain ⟨xs,hxs⟩:∃xs,xs=Qaw (l.take i):=⟨_,rfl⟩
   rw [<-hS0,<-hxs] at st;have hi':(i:Int)<n:=by omega
   have hwi:IntKind.i64.wrap ((i:Int)+1)=(i:Int)+1:=by rw [IntKind.wrap_i64];omega
   have HI:Hid (OSt q w wr (q+2) s S0 A N C xs/\BIn wr A1 L1 D/\(A1=none->L1=0/\C1=0)/\L1<=C1/\l[i]?=some D/\D∈l/\D.length=L1/\L1<=5000/\(∀z∈D,Qaf z)/\xs=Qaw (l.take i)/\N<=312*i):=⟨st,hBI,hnil,hcap,hD,hDm,hBI.1,by rw [<-hBI.1];exact hD5,hDf,hxs,hN⟩
   clear st hBI hnil hcap hD hDm hD5 hDf hxs hN blw hS0;go_wp2_with fail
   refine (Qfe A1 L1 C1 D (some ⟨wr.heap.size,0,none⟩) 6 6 hkW _ ((J2 HI).alloc _) (J3 HI) (J4 HI) (Qjt rfl) (by have:=(J8 HI);omega) (by omega)).mono ?_
   rw [off_hk,(J7 HI)];rintro e V ⟨Ah,kh,Ch,R,r,F,rfl,ow,ow3,bl⟩;have blV:Below wr.heap.size wr V:=((Below.refl _ _).alloc (Nat.le_refl _) _).trans (bl.mono (by simp));have stV:=HI.out.1.below blV;have hq3:q+3<=wr.heap.size:=by have:=HI.out.1.rc.lt;omega
   by_cases h26:26<=L1
   rotate_left
   ·rw [decide_eq_false h26]
    have hno:¬IsK s l:=λ h=>by
     have h1:=(Quv h (Jz4 H)).2.2 D (J6 HI);have h2:=h1.2.2;have:=(J7 HI)
     omega
    have d0:V.cell? ⟨q+1,0,none⟩=some (.int .u64 0):=stV.res.cell 0;have d1:V.cell? ⟨q+1,1,none⟩=some (.slice none 0 0):=stV.res.cell 1;have z0:=stV.res.frozen 0;have z1:=stV.res.frozen 1;have HE:Hid (Blk ((V.setCell ⟨q+1,0,none⟩ (.int .u64 0)).setCell ⟨q+1,1,none⟩ (.slice none 0 0)) (q+1) [.int .u64 0,.slice none 0 0] 82/\Qcr w s l (.returned (.tuple #[.agg #[.int .u64 0,.slice none 0 0],.int .i64 141])) ((V.setCell ⟨q+1,0,none⟩ (.int .u64 0)).setCell ⟨q+1,1,none⟩ (.slice none 0 0))):=Qfb stV hno;clear hno h26 ow ow3 bl blV stV hq3;go_wp2
    exact bodyPost_ret (Qad (p:=4) (u:=5) (ty:=82) rfl _ _ (q+1) _ _ _ rfl HE.out.1 Tryz.underlying82 rfl Tryz.info_state _ rfl) rfl HE.out.2
   ·rw [decide_eq_true h26]
    have hDl:=(J7 HI)
    rw [(Q36 (bs:=D) (by omega)).1] at ow;rw [(Q36 (bs:=D) (by omega)).2] at ow3;obtain ⟨g,rfl,hk,hg,hkC,hc⟩:=Qer ow (by simp);have hk6:kh=6:=by simpa using hk
    subst hk6;have c4:V.cell? ⟨g,4,none⟩=some (.int .u64 (Qfp D)):=hc 4 (by simp);obtain ⟨Sq,hSq⟩:∃Sq,Sq=Qfp D:=⟨_,rfl⟩
    have hNf:=Qqv (J9 HI);obtain ⟨M,hM⟩:∃M:Nat,rkN D=M:=⟨(rkN D).toNat,by have:=hNf.1;omega⟩
    rw [<-hSq] at c4 ow;rw [hM] at ow;have hM6:M<65536:=by have:=hNf.2;omega
    obtain ⟨T0,T1,T2,T3,htt⟩:∃T0 T1 T2 T3,[T0,T1,T2,T3,Sq,(M:Int)]=[rkM D,rkS D,rkI D,rkH D,Sq,(M:Int)]:=⟨_,_,_,_,rfl⟩
    rw [<-htt] at ow;have hr:r=L1 - 26:=by have:=ow3.1;rw [Qah,List.length_drop,hDl] at this;omega
    have k0:V.cell? ⟨q+2,0,none⟩=some (.int .u64 S0):=stV.rc.cell 0;have zk0:=stV.rc.frozen 0;have HV:Hid (DSt q w (V.setCell ⟨q+2,0,none⟩ (.int .u64 Sq)) s Sq A N C (xs ++ rkL 0 (D.drop 26)) g Ch [T0,T1,T2,T3,Sq,(M:Int)] R r F (D.drop (26+16*0))/\Sq=Qfp D/\rkN D=M/\r=L1 - 26/\M<65536/\rkPs D=rkL M (D.drop 26)/\26<=L1):=by
     refine ⟨⟨?_,Qdi stV.rc (by decide) (Qa3 ow (by simp;omega)) 0 _,Qdi stV.rc (by decide) (Qa3 ow3 (by simp;omega)) 0 _⟩,hSq,hM,hr,hM6,by unfold rkPs;rw [hM];rfl,h26⟩
     have:=stV.setSeq Sq;simpa [rkL] using this
    clear ow ow3 bl blV stV hq3 hDl hk hg hkC hc hSq hNf hM hr htt h26;go_wp2
    clear c4 k0 zk0;generalize World.setCell V _ _=V1 at HV ⊢;go_loopw [9,11] (λ rs x wr=>∃(j:Nat) (A:Option Addr) (N1 C:Nat) (R:Option Addr) (m F:Nat),x=.int .u64 j/\rs=.slice R m F/\j<=M/\26+16*j+m=L1/\N1=N+j/\DSt q w wr s Sq A N1 C (xs ++ rkL j (D.drop 26)) g Ch [T0,T1,T2,T3,Sq,(M:Int)] R m F (D.drop (26+16*j))) (λ _ x _=>M - (intOf x).toNat)
    case atStart=>exact ⟨0,A,N,C,R,r,F,rfl,rfl,Nat.zero_le _,by have:=(Jz3 HV);omega,rfl,HV.out.1⟩
    case round=>
     obtain ⟨j,A',N1,C',L,m,c',rfl,rfl,hj,hmn,hN1,st⟩:=hrel;have cn:=st.at5;rcases Nat.lt_or_ge j M with hjl | hjl
     ·have hj':(j:Int)<M:=by omega
      have hM6:=(J5 HV)
      have hwj:IntKind.u64.wrap ((j:Int)+1)=(j:Int)+1:=by rw [IntKind.wrap_u64];omega
      obtain ⟨ys,hys⟩:∃ys,ys=D.drop (26+16*j):=⟨_,rfl⟩
      have hyl:ys.length=m:=by rw [hys,List.length_drop,(J7 HI)];omega
      have hyf:∀z∈ys,Qaf z:=by rw [hys];exact λ z hz=>(J9 HI) z (List.mem_of_mem_drop hz)
      rw [<-hys] at st;have HT:Hid (DSt q w wr s Sq A' N1 C' (xs ++ rkL j (D.drop 26)) g Ch [T0,T1,T2,T3,Sq,(M:Int)] L m c' ys/\ys=D.drop (26+16*j)/\ys.length=m/\(∀z∈ys,Qaf z)/\26+16*j+m=L1/\N1=N+j/\j<M/\N1<=312*5000+65536/\m<=5000):=⟨st,hys,hyl,hyf,hmn,hN1,hjl,by have:=(Jz10 HI);omega,by have:=(J8 HI);omega⟩
      clear st hys hyl hyf hM6 hN1 hmn;go_wp2_with fail
      refine (Qfe L m c' ys (some ⟨wr.heap.size,0,none⟩) 4 4 plW _ ((Qcf HT.out.1.rest (by have:=HT.out;unfold maxLen;omega) (J4 HT)).alloc _) (Qhj HT.out.1.rest) (Qlg HT.out.1.rest) (Qnt rfl) (by have:=HT.out;omega) (by omega)).mono ?_
      rw [off_pl,(J3 HT)];rintro e V2 ⟨A2,k2,C2,R2,r2,F2,rfl,ow2,ow3,bl2⟩;have bw2:Below wr.heap.size wr V2:=((Below.refl _ _).alloc (Nat.le_refl _) _).trans (bl2.mono (by simp));by_cases h16:16<=m
      rotate_left
      ·rw [decide_eq_false h16]
       have hno:¬IsK s l:=λ h=>by
        have h1:=(Quv h (Jz4 H)).2.2 D (J6 HI);have h2:=h1.2.2;rw [(J3 HV)] at h2;have:=(J7 HI)
        have:=(Jz4 HT)
        omega
       have stV:=(HT.out.1.below bw2).o;have d0:V2.cell? ⟨q+1,0,none⟩=some (.int .u64 0):=stV.res.cell 0;have d1:V2.cell? ⟨q+1,1,none⟩=some (.slice none 0 0):=stV.res.cell 1;have z0:=stV.res.frozen 0;have z1:=stV.res.frozen 1;have HE:Hid (Blk ((V2.setCell ⟨q+1,0,none⟩ (.int .u64 0)).setCell ⟨q+1,1,none⟩ (.slice none 0 0)) (q+1) [.int .u64 0,.slice none 0 0] 82/\Qcr w s l (.returned (.tuple #[.agg #[.int .u64 0,.slice none 0 0],.int .i64 141])) ((V2.setCell ⟨q+1,0,none⟩ (.int .u64 0)).setCell ⟨q+1,1,none⟩ (.slice none 0 0))):=Qfb stV hno;clear hno h16 ow2 ow3 bl2 bw2 stV cn;go_wp2
       exact bodyPost_ret (Qad (p:=4) (u:=5) (ty:=82) rfl _ _ (q+1) _ _ _ rfl HE.out.1 Tryz.underlying82 rfl Tryz.info_state _ rfl) rfl HE.out.2
      rw [decide_eq_true h16];rw [(Q3d (ys:=ys) (by rw [(J3 HT)];exact h16)).1] at ow2;rw [(Q3d (ys:=ys) (by rw [(J3 HT)];exact h16)).2] at ow3;obtain ⟨X,hX⟩:∃X,X=rkP ys:=⟨_,rfl⟩
      have hXf:Fit2 X:=by rw [hX];exact Qme (J4 HT)
      rw [<-hX] at ow2;obtain ⟨gN,rfl,hk4,hgN,_,hcN⟩:=Qer ow2 (by simp [plV]);have hk4':k2=4:=by simpa [plV] using hk4
      subst hk4';have hr2:r2=m - 16:=by have:=ow3.1;rw [Qah,List.length_drop,(J3 HT)] at this;omega
      subst hr2;have hq1:q+3<=wr.heap.size:=by have:=HT.out.1.o.rc.lt;omega
      have st2:=(HT.out.1.below bw2).left (Qa3 ow3 (by simp;omega));have n0:V2.cell? ⟨gN,0,none⟩=some (.int .u64 X.1.1):=hcN 0 (by simp [plV]);have n1:V2.cell? ⟨gN,1,none⟩=some (.int .u64 X.1.2):=hcN 1 (by simp [plV]);have n2:V2.cell? ⟨gN,2,none⟩=some (.int .u64 X.2.1):=hcN 2 (by simp [plV]);have n3:V2.cell? ⟨gN,3,none⟩=some (.int .u64 X.2.2):=hcN 3 (by simp [plV]);obtain ⟨u0,u2,u3⟩:IntKind.u32.wrap X.1.1=X.1.1/\IntKind.i64.wrap X.2.1=X.2.1/\IntKind.i64.wrap X.2.2=X.2.2:=by
       obtain ⟨⟨f0,_⟩,f2,f3⟩:=hXf;unfold Qas at f0;unfold Qb4 at f2 f3;simp only [IntKind.wrap_u32,IntKind.wrap_i64]
       omega
      have m1:V2.cell? ⟨q+2,1,none⟩=some (.slice A' N1 C'):=st2.o.rc.cell 1;have m2:∀o,(V2.alloc o).cell? ⟨q+2,1,none⟩=some (.slice A' N1 C'):=λ o=>(st2.o.rc.alloc o).cell 1
      have st2:=st2.below ((Below.refl _ _).drew);obtain ⟨a9,c9,w9,e9',o9,b9,g9⟩:=Qm6 st2.o.own X (by have:=HT.out;omega) (by have:=st2.o.rc.lt;omega);have e9:(Builtin.append_ #[77,77] 77 #[.slice A' N1 C',.slice (some ⟨V2.heap.size,0,none⟩) 1 1]).run prog (V2.alloc (.cells #[.int .u32 X.1.1,.int .u64 X.1.2,.int .i64 X.2.1,.int .i64 X.2.2] 137)).drew=.ok (.slice a9 (N1+1) c9) w9:=e9';have rc9:=st2.o.rc.below b9 (by omega);have m4:w9.cell? ⟨q+2,1,none⟩=some (.slice A' N1 C'):=rc9.cell 1;have m5:=rc9.frozen 1;have st9:=st2.more o9 b9 g9;have ow2d:=Qgm ow2 ((Below.refl _ _).drew);have ox9:=Qxv ow2d st2.o.own (by decide) g9;have hne:gN≠q+2:=by simp at hgN;omega
      have r0:w9.cell? ⟨gN,0,none⟩=some (.int .u64 X.1.1):=(ox9.cellAt 0 (by decide)).trans rfl;have r1:w9.cell? ⟨gN,1,none⟩=some (.int .u64 X.1.2):=(ox9.cellAt 1 (by decide)).trans rfl;have r2:w9.cell? ⟨gN,2,none⟩=some (.int .u64 X.2.1):=(ox9.cellAt 2 (by decide)).trans rfl;have r3:w9.cell? ⟨gN,3,none⟩=some (.int .u64 X.2.2):=(ox9.cellAt 3 (by decide)).trans rfl;have t0:(w9.setCell ⟨q+2,1,none⟩ (.slice a9 (N1+1) c9)).cell? ⟨gN,0,none⟩=some (.int .u64 X.1.1):=Qa1 r0 (by show gN≠q+2;exact hne);have t1:(w9.setCell ⟨q+2,1,none⟩ (.slice a9 (N1+1) c9)).cell? ⟨gN,1,none⟩=some (.int .u64 X.1.2):=Qa1 r1 (by show gN≠q+2;exact hne);have t2:(w9.setCell ⟨q+2,1,none⟩ (.slice a9 (N1+1) c9)).cell? ⟨gN,2,none⟩=some (.int .u64 X.2.1):=Qa1 r2 (by show gN≠q+2;exact hne);have t3:(w9.setCell ⟨q+2,1,none⟩ (.slice a9 (N1+1) c9)).cell? ⟨gN,3,none⟩=some (.int .u64 X.2.2):=Qa1 r3 (by show gN≠q+2;exact hne);have p0:∀o,(V2.alloc o).cell? ⟨gN,0,none⟩=some (.int .u64 X.1.1):=λ o=>(((Below.refl _ V2).alloc (Nat.le_refl _) o).cell (Qaa n0)).trans n0
      have p1:∀o,(V2.alloc o).cell? ⟨gN,1,none⟩=some (.int .u64 X.1.2):=λ o=>(((Below.refl _ V2).alloc (Nat.le_refl _) o).cell (Qaa n1)).trans n1
      have p2:∀o,(V2.alloc o).cell? ⟨gN,2,none⟩=some (.int .u64 X.2.1):=λ o=>(((Below.refl _ V2).alloc (Nat.le_refl _) o).cell (Qaa n2)).trans n2
      have p3:∀o,(V2.alloc o).cell? ⟨gN,3,none⟩=some (.int .u64 X.2.2):=λ o=>(((Below.refl _ V2).alloc (Nat.le_refl _) o).cell (Qaa n3)).trans n3
      have H9:Hid (DSt q w (w9.setCell ⟨q+2,1,none⟩ (.slice a9 (N1+1) c9)) s Sq a9 (N1+1) c9 (xs ++ rkL (j+1) (D.drop 26)) g Ch [T0,T1,T2,T3,Sq,(M:Int)] R2 (m - 16) F2 (D.drop (26+16*(j+1)))):=by
       have e:xs ++ rkL (j+1) (D.drop 26)=(xs ++ rkL j (D.drop 26)) ++ [X]:=by rw [Qmf,List.drop_drop,hX,(J2 HT),List.append_assoc]
       have e3:ys.drop 16=D.drop (26+16*(j+1)):=by rw [(J2 HT),List.drop_drop];congr 1
       rw [e,<-e3];exact st9
      clear hX hXf ow2 ow3 bl2 hk4 hcN bw2 hq1 st2 o9 b9 g9 rc9 st9 e9' ox9 hne hgN cn ow2d;go_upto_region 16 with fail
      refine wp_region_held_drew (S:=λ Y=>Y.cell? ⟨gN,0,none⟩=some (.int .u64 X.1.1)/\Y.cell? ⟨gN,1,none⟩=some (.int .u64 X.1.2)/\Y.cell? ⟨gN,2,none⟩=some (.int .u64 X.2.1)/\Y.cell? ⟨gN,3,none⟩=some (.int .u64 X.2.2)) (by kernel_rfl) (by exact ⟨n0,n1,n2,n3⟩) (λ hS=>?_)
      refine wpAnyH_take (i:=0) (oi:={dst:=some 59,op:=Op.fieldAddr 82 (Operand.tmp 6) 1,type:=0,pos:="ref.go:90",after:=#[],guard:=none}) (v:=.pointer (some ⟨q+2,1,none⟩)) rfl (by kernel_rfl) (by kernel_rfl) (by kernel_rfl) (λ _ _ _ h=>h) (Or.inl ⟨by rfl,λ Y hY=>by (try dsimp only at hY);go_simp⟩) hS ?_
      simp only [Act.put,List.setIfInBounds_toArray,List.set_cons_zero,List.set_cons_succ]
      refine wpAnyH_take (i:=2) (oi:={dst:=some 61,op:=Op.move (Operand.tmp 12),type:=46,pos:="ref.go:90",after:=#[],guard:=none}) (v:=.slice (some ⟨gN,0,none⟩) 4 C2) rfl (by kernel_rfl) (by kernel_rfl) (by kernel_rfl) (λ _ _ _ h=>h) (Or.inl ⟨by rfl,λ Y hY=>by (try dsimp only at hY);go_simp⟩) hS ?_
      simp only [Act.put,List.setIfInBounds_toArray,List.set_cons_zero,List.set_cons_succ]
      refine wpAnyH_take (i:=3) (oi:={dst:=some 62,op:=Op.indexAddr 46 (Operand.tmp 61) (Operand.const (Value.int IntKind.i64 0)),type:=0,pos:="ref.go:90",after:=#[{on:=2,ground:=Ground.data}],guard:=none}) (v:=.pointer (some ⟨gN,0,none⟩)) rfl (by kernel_rfl) (by kernel_rfl) (by kernel_rfl) (λ _ _ _ h=>h) (Or.inl ⟨by rfl,λ Y hY=>by (try dsimp only at hY);go_simp⟩) hS ?_
      simp only [Act.put,List.setIfInBounds_toArray,List.set_cons_zero,List.set_cons_succ]
      refine wpAnyH_take (i:=4) (oi:={dst:=some 63,op:=Op.load 45 (Operand.tmp 62),type:=45,pos:="ref.go:90",after:=#[{on:=3,ground:=Ground.data}],guard:=none}) (v:=.int .u64 X.1.1) rfl (by kernel_rfl) (by kernel_rfl) (by kernel_rfl) (λ _ _ _ h=>h) (Or.inl ⟨by rfl,λ Y hY=>by (try dsimp only at hY);go_simp⟩) hS ?_
      simp only [Act.put,List.setIfInBounds_toArray,List.set_cons_zero,List.set_cons_succ]
      refine wpAnyH_take (i:=5) (oi:={dst:=some 64,op:=Op.convert 45 70 (Operand.tmp 63),type:=70,pos:="ref.go:90",after:=#[{on:=4,ground:=Ground.data}],guard:=none}) (v:=.int .u32 X.1.1) rfl (by kernel_rfl) (by kernel_rfl) (by kernel_rfl) (λ _ _ _ h=>h) (Or.inl ⟨by rfl,λ Y hY=>by (try dsimp only at hY);go_simp⟩) hS ?_
      simp only [Act.put,List.setIfInBounds_toArray,List.set_cons_zero,List.set_cons_succ]
      refine wpAnyH_take (i:=6) (oi:={dst:=some 65,op:=Op.move (Operand.tmp 12),type:=46,pos:="ref.go:90",after:=#[],guard:=none}) (v:=.slice (some ⟨gN,0,none⟩) 4 C2) rfl (by kernel_rfl) (by kernel_rfl) (by kernel_rfl) (λ _ _ _ h=>h) (Or.inl ⟨by rfl,λ Y hY=>by (try dsimp only at hY);go_simp⟩) hS ?_
      simp only [Act.put,List.setIfInBounds_toArray,List.set_cons_zero,List.set_cons_succ]
      refine wpAnyH_take (i:=7) (oi:={dst:=some 66,op:=Op.indexAddr 46 (Operand.tmp 65) (Operand.const (Value.int IntKind.i64 1)),type:=0,pos:="ref.go:90",after:=#[{on:=6,ground:=Ground.data}],guard:=none}) (v:=.pointer (some ⟨gN,1,none⟩)) rfl (by kernel_rfl) (by kernel_rfl) (by kernel_rfl) (λ _ _ _ h=>h) (Or.inl ⟨by rfl,λ Y hY=>by (try dsimp only at hY);go_simp⟩) hS ?_
      simp only [Act.put,List.setIfInBounds_toArray,List.set_cons_zero,List.set_cons_succ]
      refine wpAnyH_take (i:=8) (oi:={dst:=some 67,op:=Op.load 45 (Operand.tmp 66),type:=45,pos:="ref.go:90",after:=#[{on:=7,ground:=Ground.data}],guard:=none}) (v:=.int .u64 X.1.2) rfl (by kernel_rfl) (by kernel_rfl) (by kernel_rfl) (λ _ _ _ h=>h) (Or.inl ⟨by rfl,λ Y hY=>by (try dsimp only at hY);go_simp⟩) hS ?_
      simp only [Act.put,List.setIfInBounds_toArray,List.set_cons_zero,List.set_cons_succ]
      refine wpAnyH_take (i:=9) (oi:={dst:=some 68,op:=Op.move (Operand.tmp 12),type:=46,pos:="ref.go:90",after:=#[],guard:=none}) (v:=.slice (some ⟨gN,0,none⟩) 4 C2) rfl (by kernel_rfl) (by kernel_rfl) (by kernel_rfl) (λ _ _ _ h=>h) (Or.inl ⟨by rfl,λ Y hY=>by (try dsimp only at hY);go_simp⟩) hS ?_
      simp only [Act.put,List.setIfInBounds_toArray,List.set_cons_zero,List.set_cons_succ]
      refine wpAnyH_take (i:=10) (oi:={dst:=some 69,op:=Op.indexAddr 46 (Operand.tmp 68) (Operand.const (Value.int IntKind.i64 2)),type:=0,pos:="ref.go:90",after:=#[{on:=9,ground:=Ground.data}],guard:=none}) (v:=.pointer (some ⟨gN,2,none⟩)) rfl (by kernel_rfl) (by kernel_rfl) (by kernel_rfl) (λ _ _ _ h=>h) (Or.inl ⟨by rfl,λ Y hY=>by (try dsimp only at hY);go_simp⟩) hS ?_
      simp only [Act.put,List.setIfInBounds_toArray,List.set_cons_zero,List.set_cons_succ]
      refine wpAnyH_take (i:=11) (oi:={dst:=some 70,op:=Op.load 45 (Operand.tmp 69),type:=45,pos:="ref.go:90",after:=#[{on:=10,ground:=Ground.data}],guard:=none}) (v:=.int .u64 X.2.1) rfl (by kernel_rfl) (by kernel_rfl) (by kernel_rfl) (λ _ _ _ h=>h) (Or.inl ⟨by rfl,λ Y hY=>by (try dsimp only at hY);go_simp⟩) hS ?_
      simp only [Act.put,List.setIfInBounds_toArray,List.set_cons_zero,List.set_cons_succ]
      refine wpAnyH_take (i:=12) (oi:={dst:=some 71,op:=Op.convert 45 3 (Operand.tmp 70),type:=3,pos:="ref.go:90",after:=#[{on:=11,ground:=Ground.data}],guard:=none}) (v:=.int .i64 X.2.1) rfl (by kernel_rfl) (by kernel_rfl) (by kernel_rfl) (λ _ _ _ h=>h) (Or.inl ⟨by rfl,λ Y hY=>by (try dsimp only at hY);go_simp⟩) hS ?_
      simp only [Act.put,List.setIfInBounds_toArray,List.set_cons_zero,List.set_cons_succ]
      refine wpAnyH_take (i:=13) (oi:={dst:=some 72,op:=Op.move (Operand.tmp 12),type:=46,pos:="ref.go:90",after:=#[],guard:=none}) (v:=.slice (some ⟨gN,0,none⟩) 4 C2) rfl (by kernel_rfl) (by kernel_rfl) (by kernel_rfl) (λ _ _ _ h=>h) (Or.inl ⟨by rfl,λ Y hY=>by (try dsimp only at hY);go_simp⟩) hS ?_
      simp only [Act.put,List.setIfInBounds_toArray,List.set_cons_zero,List.set_cons_succ]
      refine wpAnyH_take (i:=14) (oi:={dst:=some 73,op:=Op.indexAddr 46 (Operand.tmp 72) (Operand.const (Value.int IntKind.i64 3)),type:=0,pos:="ref.go:90",after:=#[{on:=13,ground:=Ground.data}],guard:=none}) (v:=.pointer (some ⟨gN,3,none⟩)) rfl (by kernel_rfl) (by kernel_rfl) (by kernel_rfl) (λ _ _ _ h=>h) (Or.inl ⟨by rfl,λ Y hY=>by (try dsimp only at hY);go_simp⟩) hS ?_
      simp only [Act.put,List.setIfInBounds_toArray,List.set_cons_zero,List.set_cons_succ]
      refine wpAnyH_take (i:=15) (oi:={dst:=some 74,op:=Op.load 45 (Operand.tmp 73),type:=45,pos:="ref.go:90",after:=#[{on:=14,ground:=Ground.data}],guard:=none}) (v:=.int .u64 X.2.2) rfl (by kernel_rfl) (by kernel_rfl) (by kernel_rfl) (λ _ _ _ h=>h) (Or.inl ⟨by rfl,λ Y hY=>by (try dsimp only at hY);go_simp⟩) hS ?_
      simp only [Act.put,List.setIfInBounds_toArray,List.set_cons_zero,List.set_cons_succ]
      refine wpAnyH_take (i:=16) (oi:={dst:=some 75,op:=Op.convert 45 3 (Operand.tmp 74),type:=3,pos:="ref.go:90",after:=#[{on:=15,ground:=Ground.data}],guard:=none}) (v:=.int .i64 X.2.2) rfl (by kernel_rfl) (by kernel_rfl) (by kernel_rfl) (λ _ _ _ h=>h) (Or.inl ⟨by rfl,λ Y hY=>by (try dsimp only at hY);go_simp⟩) hS ?_
      simp only [Act.put,List.setIfInBounds_toArray,List.set_cons_zero,List.set_cons_succ]
      refine wpAnyH_take (i:=17) (oi:={dst:=some 76,op:=Op.build 85 #[(0,Operand.tmp 71),(1,Operand.tmp 75)],type:=85,pos:="ref.go:90",after:=#[{on:=12,ground:=Ground.data},{on:=16,ground:=Ground.data}],guard:=none}) (v:=.agg #[.int .i64 X.2.1,.int .i64 X.2.2]) rfl (by kernel_rfl) (by kernel_rfl) (by kernel_rfl) (λ _ _ _ h=>h) (Or.inl ⟨by rfl,λ Y hY=>by (try dsimp only at hY);go_simp⟩) hS ?_
      simp only [Act.put,List.setIfInBounds_toArray,List.set_cons_zero,List.set_cons_succ]
      refine wpAnyH_take (i:=18) (oi:={dst:=some 77,op:=Op.build 137 #[(0,Operand.tmp 64),(1,Operand.tmp 67),(2,Operand.tmp 76)],type:=137,pos:="ref.go:90",after:=#[{on:=5,ground:=Ground.data},{on:=8,ground:=Ground.data},{on:=17,ground:=Ground.data}],guard:=none}) (v:=.agg #[.int .u32 X.1.1,.int .u64 X.1.2,.int .i64 X.2.1,.int .i64 X.2.2]) rfl (by kernel_rfl) (by kernel_rfl) (by kernel_rfl) (λ _ _ _ h=>h) (Or.inl ⟨by rfl,λ Y hY=>by (try dsimp only at hY);go_simp⟩) hS ?_
      simp only [Act.put,List.setIfInBounds_toArray,List.set_cons_zero,List.set_cons_succ]
      refine wpAnyH_ready (rs:=[1,19]) (by kernel_rfl) (by simp) (AllReadyH.cons (o:={dst:=some 60,op:=Op.load 77 (Operand.tmp 59),type:=77,pos:="ref.go:90",after:=#[{on:=0,ground:=Ground.data}],guard:=none}) rfl (λ KK hK=>?ga) (AllReadyH.cons (o:={dst:=some 78,op:=Op.buildSlice 77 1 #[(0,Operand.tmp 77)],type:=77,pos:="ref.go:90",after:=#[{on:=18,ground:=Ground.data}],guard:=none}) rfl (λ KK hK=>?gb) AllReadyH.nil))
      case ga=>
       go_simp
       refine hK.out _ _ ⟨n0,n1,n2,n3⟩ (λ hS1=>?_)
       clear hK KK;try simp only [Act.put,List.setIfInBounds_toArray,List.set_cons_zero,List.set_cons_succ]
       refine wpAnyH_ready (rs:=[19]) (by kernel_rfl) (by simp) (AllReadyH.cons (o:={dst:=some 78,op:=Op.buildSlice 77 1 #[(0,Operand.tmp 77)],type:=77,pos:="ref.go:90",after:=#[{on:=18,ground:=Ground.data}],guard:=none}) rfl (λ KK hK=>?_) AllReadyH.nil)
       go_simp
       refine hK.out _ _ ⟨p0 _,p1 _,p2 _,p3 _⟩ (λ hS2=>?_)
       clear hK KK;try simp only [Act.put,List.setIfInBounds_toArray,List.set_cons_zero,List.set_cons_succ]
       refine wpAnyH_ready (rs:=[20]) (by kernel_rfl) (by simp) (AllReadyH.cons (o:={dst:=some 79,op:=Op.call {callee:=Callee.builtin Builtin.append,args:=#[Operand.tmp 60,Operand.tmp 78],argTypes:=#[77,77]},type:=77,pos:="ref.go:90",after:=#[{on:=1,ground:=Ground.data},{on:=19,ground:=Ground.data}],guard:=none}) rfl (λ KK hK=>?_) AllReadyH.nil)
       refine Qaq rfl (.tmp 60) (.tmp 78) 77 77 rfl _ _ rfl rfl _ _ e9 ?_
       refine hK.out _ _ ⟨r0,r1,r2,r3⟩ (λ hS3=>?_)
       clear hK KK;try simp only [Act.put,List.setIfInBounds_toArray,List.set_cons_zero,List.set_cons_succ]
       refine wpAnyH_take (i:=21) (oi:={dst:=some 80,op:=Op.fieldAddr 82 (Operand.tmp 6) 1,type:=0,pos:="ref.go:90",after:=#[{on:=0,ground:=Ground.phase},{on:=1,ground:=Ground.phase},{on:=2,ground:=Ground.phase},{on:=3,ground:=Ground.phase},{on:=4,ground:=Ground.phase},{on:=5,ground:=Ground.phase},{on:=6,ground:=Ground.phase},{on:=7,ground:=Ground.phase},{on:=8,ground:=Ground.phase},{on:=9,ground:=Ground.phase},{on:=10,ground:=Ground.phase},{on:=11,ground:=Ground.phase},{on:=12,ground:=Ground.phase},{on:=13,ground:=Ground.phase},{on:=14,ground:=Ground.phase},{on:=15,ground:=Ground.phase},{on:=16,ground:=Ground.phase},{on:=17,ground:=Ground.phase},{on:=18,ground:=Ground.phase},{on:=19,ground:=Ground.phase},{on:=20,ground:=Ground.phase}],guard:=none}) (v:=.pointer (some ⟨q+2,1,none⟩)) rfl (by kernel_rfl) (by kernel_rfl) (by kernel_rfl) (λ _ _ _ h=>h) (Or.inl ⟨by rfl,λ Y hY=>by (try dsimp only at hY);go_simp⟩) hS3 ?_
       simp only [Act.put,List.setIfInBounds_toArray,List.set_cons_zero,List.set_cons_succ]
       refine wpAnyH_ready (rs:=[22]) (by kernel_rfl) (by simp) (AllReadyH.cons (o:={dst:=none,op:=Op.store 77 (Operand.tmp 80) (Operand.tmp 79),type:=0,pos:="ref.go:90",after:=#[{on:=21,ground:=Ground.data},{on:=20,ground:=Ground.data},{on:=20,ground:=Ground.chain},{on:=0,ground:=Ground.phase},{on:=1,ground:=Ground.phase},{on:=2,ground:=Ground.phase},{on:=3,ground:=Ground.phase},{on:=4,ground:=Ground.phase},{on:=5,ground:=Ground.phase},{on:=6,ground:=Ground.phase},{on:=7,ground:=Ground.phase},{on:=8,ground:=Ground.phase},{on:=9,ground:=Ground.phase},{on:=10,ground:=Ground.phase},{on:=11,ground:=Ground.phase},{on:=12,ground:=Ground.phase},{on:=13,ground:=Ground.phase},{on:=14,ground:=Ground.phase},{on:=15,ground:=Ground.phase},{on:=16,ground:=Ground.phase},{on:=17,ground:=Ground.phase},{on:=18,ground:=Ground.phase},{on:=19,ground:=Ground.phase},{on:=20,ground:=Ground.phase}],guard:=none}) rfl (λ KK hK=>?_) AllReadyH.nil)
       go_simp
       refine hK.out _ _ ⟨t0,t1,t2,t3⟩ (λ hS4=>?_)
       clear hK KK;try simp only [Act.put,List.setIfInBounds_toArray,List.set_cons_zero,List.set_cons_succ]
       refine wpAnyH_done (by kernel_rfl) ?_ _
       clear e9 m4 m5 n0 n1 n2 n3 m1 m2 u0 u2 u3 r0 r1 r2 r3 t0 t1 t2 t3 p0 p1 p2 p3 hS hS1 hS2 hS3 hS4;generalize World.setCell w9 _ _=V9 at H9 ⊢;go_wp2
       go_roundw
       case rel=>exact ⟨j+1,a9,N1+1,c9,R2,m - 16,F2,by simp,rfl,by omega,by have:=HT.out;omega,by have:=HT.out;omega,H9.out⟩
       case measure=>simp [intOf];omega
      case gb=>
       go_simp
       refine hK.out _ _ ⟨p0 _,p1 _,p2 _,p3 _⟩ (λ hS1=>?_)
       clear hK KK;try simp only [Act.put,List.setIfInBounds_toArray,List.set_cons_zero,List.set_cons_succ]
       refine wpAnyH_ready (rs:=[1]) (by kernel_rfl) (by simp) (AllReadyH.cons (o:={dst:=some 60,op:=Op.load 77 (Operand.tmp 59),type:=77,pos:="ref.go:90",after:=#[{on:=0,ground:=Ground.data}],guard:=none}) rfl (λ KK hK=>?_) AllReadyH.nil)
       go_simp
       refine hK.out _ _ ⟨p0 _,p1 _,p2 _,p3 _⟩ (λ hS2=>?_)
       clear hK KK;try simp only [Act.put,List.setIfInBounds_toArray,List.set_cons_zero,List.set_cons_succ]
       refine wpAnyH_ready (rs:=[20]) (by kernel_rfl) (by simp) (AllReadyH.cons (o:={dst:=some 79,op:=Op.call {callee:=Callee.builtin Builtin.append,args:=#[Operand.tmp 60,Operand.tmp 78],argTypes:=#[77,77]},type:=77,pos:="ref.go:90",after:=#[{on:=1,ground:=Ground.data},{on:=19,ground:=Ground.data}],guard:=none}) rfl (λ KK hK=>?_) AllReadyH.nil)
       refine Qaq rfl (.tmp 60) (.tmp 78) 77 77 rfl _ _ rfl rfl _ _ e9 ?_
       refine hK.out _ _ ⟨r0,r1,r2,r3⟩ (λ hS3=>?_)
       clear hK KK;try simp only [Act.put,List.setIfInBounds_toArray,List.set_cons_zero,List.set_cons_succ]
       refine wpAnyH_take (i:=21) (oi:={dst:=some 80,op:=Op.fieldAddr 82 (Operand.tmp 6) 1,type:=0,pos:="ref.go:90",after:=#[{on:=0,ground:=Ground.phase},{on:=1,ground:=Ground.phase},{on:=2,ground:=Ground.phase},{on:=3,ground:=Ground.phase},{on:=4,ground:=Ground.phase},{on:=5,ground:=Ground.phase},{on:=6,ground:=Ground.phase},{on:=7,ground:=Ground.phase},{on:=8,ground:=Ground.phase},{on:=9,ground:=Ground.phase},{on:=10,ground:=Ground.phase},{on:=11,ground:=Ground.phase},{on:=12,ground:=Ground.phase},{on:=13,ground:=Ground.phase},{on:=14,ground:=Ground.phase},{on:=15,ground:=Ground.phase},{on:=16,ground:=Ground.phase},{on:=17,ground:=Ground.phase},{on:=18,ground:=Ground.phase},{on:=19,ground:=Ground.phase},{on:=20,ground:=Ground.phase}],guard:=none}) (v:=.pointer (some ⟨q+2,1,none⟩)) rfl (by kernel_rfl) (by kernel_rfl) (by kernel_rfl) (λ _ _ _ h=>h) (Or.inl ⟨by rfl,λ Y hY=>by (try dsimp only at hY);go_simp⟩) hS3 ?_
       simp only [Act.put,List.setIfInBounds_toArray,List.set_cons_zero,List.set_cons_succ]
       refine wpAnyH_ready (rs:=[22]) (by kernel_rfl) (by simp) (AllReadyH.cons (o:={dst:=none,op:=Op.store 77 (Operand.tmp 80) (Operand.tmp 79),type:=0,pos:="ref.go:90",after:=#[{on:=21,ground:=Ground.data},{on:=20,ground:=Ground.data},{on:=20,ground:=Ground.chain},{on:=0,ground:=Ground.phase},{on:=1,ground:=Ground.phase},{on:=2,ground:=Ground.phase},{on:=3,ground:=Ground.phase},{on:=4,ground:=Ground.phase},{on:=5,ground:=Ground.phase},{on:=6,ground:=Ground.phase},{on:=7,ground:=Ground.phase},{on:=8,ground:=Ground.phase},{on:=9,ground:=Ground.phase},{on:=10,ground:=Ground.phase},{on:=11,ground:=Ground.phase},{on:=12,ground:=Ground.phase},{on:=13,ground:=Ground.phase},{on:=14,ground:=Ground.phase},{on:=15,ground:=Ground.phase},{on:=16,ground:=Ground.phase},{on:=17,ground:=Ground.phase},{on:=18,ground:=Ground.phase},{on:=19,ground:=Ground.phase},{on:=20,ground:=Ground.phase}],guard:=none}) rfl (λ KK hK=>?_) AllReadyH.nil)
       go_simp
       refine hK.out _ _ ⟨t0,t1,t2,t3⟩ (λ hS4=>?_)
       clear hK KK;try simp only [Act.put,List.setIfInBounds_toArray,List.set_cons_zero,List.set_cons_succ]
       refine wpAnyH_done (by kernel_rfl) ?_ _
       clear e9 m4 m5 n0 n1 n2 n3 m1 m2 u0 u2 u3 r0 r1 r2 r3 t0 t1 t2 t3 p0 p1 p2 p3 hS hS1 hS2 hS3 hS4;generalize World.setCell w9 _ _=V9 at H9 ⊢;go_wp2
       go_roundw
       case rel=>exact ⟨j+1,a9,N1+1,c9,R2,m - 16,F2,by simp,rfl,by omega,by have:=HT.out;omega,by have:=HT.out;omega,H9.out⟩
       case measure=>simp [intOf];omega
     ·have hjM:M=j:=by omega
      subst hjM;have HO:Hid (OSt q w wr (q+2) s (Qa0 (l.take (i+1))) A' N1 C' (Qaw (l.take (i+1)))/\N1<=312*(i+1)):=by
       refine ⟨?_,?_⟩
       ·rw [Qao (J5 HI),Qeb,Qkb,<-(J10 HI),(J6 HV),<-(J2 HV)]
        exact st.o
       ·have h1:=(Jz10 HI)
        have h2:=(J8 HI)
        omega
      clear st;go_wp2
      go_roundw
      case rel=>exact ⟨i+1,A',N1,C',by simp,by omega,HO.out.1,HO.out.2⟩
      case measure=>simp [intOf];omega
  ·have hin:n=i:=by omega
   subst hin;have htk:l.take n=l:=List.take_of_length_le (by rw [H.out.1.1];exact Nat.le_refl _);rw [htk] at st;obtain ⟨S,hS⟩:∃S,S=Qa0 l:=⟨_,rfl⟩
   obtain ⟨ps,hps⟩:∃ps,ps=Qaw l:=⟨_,rfl⟩
   rw [<-hS,<-hps] at st;have hSf:Qai S:=by rw [hS];exact Qec l (Jz4 H)
   have hpf:∀p∈ps,Qdu p:=by rw [hps];exact λ p hp=>(Qk6 (Jz4 H) p hp).fits
   have hk:KIn wr A N ps:=Qj3 st.own (by unfold maxLen;omega) hpf;have HS:Hid (OSt q w wr (q+2) s S A N C ps/\S=Qa0 l/\ps=Qaw l/\Qai S/\(∀p∈ps,Qdu p)/\KIn wr A N ps/\N<=312*n):=⟨st,hS,hps,hSf,hpf,hk,hN⟩
   have e0:wr.cell? ⟨q,0,none⟩=some (.int .i64 s.z):=st.shp.cell 0;have e1:wr.cell? ⟨q,1,none⟩=some (.int .i64 s.zb):=st.shp.cell 1;have e2:wr.cell? ⟨q,2,none⟩=some (.int .i64 s.b):=st.shp.cell 2;have e3:wr.cell? ⟨q,3,none⟩=some (.int .i64 s.r):=st.shp.cell 3;have k0:wr.cell? ⟨q+2,0,none⟩=some (.int .u64 S):=st.rc.cell 0;have k1:wr.cell? ⟨q+2,1,none⟩=some (.slice A N C):=st.rc.cell 1;clear st hS hps hSf hpf hk hN htk;go_wp2_with fail
   refine (Qju s S A N C ps wr (J3 H) (J4 HS) (J6 HS) (by have:=(Jz6 HS);omega)).mono ?_
   rintro e W6 ⟨v6,rfl,r6,b6⟩;have st6:=HS.out.1.below b6;obtain ⟨av,cv,hv6⟩:=r6.slice;obtain ⟨nl,hnl⟩:∃nl,nl=(ckO s S ps).length:=⟨_,rfl⟩
   rw [<-hnl] at hv6;subst hv6;have HSt:Hid (∀j,OSt q w (W6.drewN j) (q+2) s S A N C ps):=λ j=>st6.below (let h:=Below.refl W6.heap.size W6;⟨h.os,h.tape,h.output,h.size,h.block⟩)
   have d0:W6.cell? ⟨q+1,0,none⟩=some (.int .u64 0):=st6.res.cell 0;have d1:W6.cell? ⟨q+1,1,none⟩=some (.slice none 0 0):=st6.res.cell 1;have z0:=st6.res.frozen 0;have z1:=st6.res.frozen 1;have hbad:Hid (¬IsK s l->Blk ((W6.setCell ⟨q+1,0,none⟩ (.int .u64 0)).setCell ⟨q+1,1,none⟩ (.slice none 0 0)) (q+1) [.int .u64 0,.slice none 0 0] 82/\Qcr w s l (.returned (.tuple #[.agg #[.int .u64 0,.slice none 0 0],.int .i64 141])) ((W6.setCell ⟨q+1,0,none⟩ (.int .u64 0)).setCell ⟨q+1,1,none⟩ (.slice none 0 0))):=λ hno=>Qfb st6 hno
   obtain ⟨E,hE⟩:∃E,E=ckE s ps:=⟨_,rfl⟩
   rw [<-hE];have b6w:Below w.heap.size w W6:=by rw [<-(J2 H)];exact st6.bel
   have HR6:Hid (RowAt (λ j=>wr.heap.size<=j) W6 (.slice av nl cv) (ckO s S ps)/\Below w.heap.size w W6/\E=ckE s ps/\nl=(ckO s S ps).length/\KIn W6 A N ps):=⟨r6,b6w,hE,hnl,(J6 HS).below b6⟩
   clear e0 e1 e2 e3 k0 k1 st6 r6 b6 hE hnl b6w;by_cases hE0:E=0
   rotate_left
   ·have f1:(E != 0)=true:=by simp [hE0]
    have HE:Hid (Blk ((W6.setCell ⟨q+1,0,none⟩ (.int .u64 0)).setCell ⟨q+1,1,none⟩ (.slice none 0 0)) (q+1) [.int .u64 0,.slice none 0 0] 82/\Qcr w s l (.returned (.tuple #[.agg #[.int .u64 0,.slice none 0 0],.int .i64 141])) ((W6.setCell ⟨q+1,0,none⟩ (.int .u64 0)).setCell ⟨q+1,1,none⟩ (.slice none 0 0))):=hbad.out (λ h=>hE0 (by rw [(J3 HR6),(J3 HS)];exact h.1));clear hE0 hbad;go_wp2
    exact bodyPost_ret (Qad (p:=4) (u:=5) (ty:=82) rfl _ _ (q+1) _ _ _ rfl HE.out.1 Tryz.underlying82 rfl Tryz.info_state _ rfl) rfl HE.out.2
   have hE0':ckE s ps=0:=by rw [<-(J3 HR6)];exact hE0
   have hck:ckO s S ps=ckL s S ps:=by unfold ckO;rw [if_pos hE0']
   obtain ⟨ls,hls⟩:∃ls,ls=ckL s S ps:=⟨_,rfl⟩
   have HL:Hid (BsIn W6 av nl ls/\BsIn W6 (a) n l/\ls=ckL s S ps/\nl=ls.length/\ckE s ps=0/\∀b∈ls,∀z∈b,Qaf z):=by
    have h1:=HR6.out.1;rw [hck,<-hls] at h1;have h2:=h1.bsin (by rw [hls];exact Qf7 hE0');exact ⟨h2,H.out.1.below (J2 HR6),hls,by rw [(J4 HR6),hck,hls],hE0',Ql7 h2⟩
   clear hE0' hck hls;subst hE0;have hll:=H.out.1.1;by_cases hnn:nl=n
   rotate_left
   ·have f1:((nl:Int) != (n:Int))=true:=by simp;omega
    have f2:(nl != n)=true:=by simp [hnn]
    have HE:Hid (Blk ((W6.setCell ⟨q+1,0,none⟩ (.int .u64 0)).setCell ⟨q+1,1,none⟩ (.slice none 0 0)) (q+1) [.int .u64 0,.slice none 0 0] 82/\Qcr w s l (.returned (.tuple #[.agg #[.int .u64 0,.slice none 0 0],.int .i64 141])) ((W6.setCell ⟨q+1,0,none⟩ (.int .u64 0)).setCell ⟨q+1,1,none⟩ (.slice none 0 0))):=hbad.out (λ h=>hnn (by
     have h2:=h.2;rw [<-(J2 HS),<-(J3 HS),<-(J3 HL)] at h2;rw [(J4 HL),h2];exact hll))
    clear hnn hbad hll;go_wp2
    exact bodyPost_ret (Qad (p:=4) (u:=5) (ty:=82) rfl _ _ (q+1) _ _ _ rfl HE.out.1 Tryz.underlying82 rfl Tryz.info_state _ rfl) rfl HE.out.2
   have hnn':n=nl:=hnn.symm;subst hnn';clear hnn hbad d0 d1 z0 z1;have f1:((n:Int) != (n:Int))=false:=by simp
   have f2:(n != n)=false:=by simp
   go_wp2
   clear f1 f2;go_loopw [17] (λ x wr=>∃i j:Nat,x=.int .i64 i/\i<=n/\wr=W6.drewN j/\∀k,k<i->ls[k]?=l[k]?) (λ x _=>n - (intOf x).toNat)
   case atStart=>exact ⟨0,0,rfl,Nat.zero_le _,rfl,λ k h=>by omega⟩
   case round=>
    obtain ⟨i,j,rfl,hi,rfl,heq⟩:=hrel;obtain ⟨V,hV⟩:∃V,V=W6.drewN j:=⟨_,rfl⟩
    have hcl:∀(p:Addr) (v:Value),W6.cell? p=some v->∀t,(V.drewN t).cell? p=some v:=λ p v h t=>by rw [hV];exact h
    rcases Nat.lt_or_ge i n with hlt | hge
    ·obtain ⟨D1,hD1⟩:∃D1,ls[i]?=some D1:=⟨ls[i]'(by have:=(J4 HL);omega),by simp⟩
     obtain ⟨D2,hD2⟩:∃D2,l[i]?=some D2:=⟨l[i]'(by have:=H.out.1.1;omega),by simp⟩
     obtain ⟨b1,o1,A1,L1,C1,ha1,c1,bin1,_⟩:=HL.out.1.at hD1;obtain ⟨b2,o2,A2,L2,C2,ha2,c2,bin2,_⟩:=(J2 HL).at hD2;subst ha1;subst ha2;have c1':=hcl _ _ c1;have c2':=hcl _ _ c2;have h1:=λ t=>Qh0 (V.drewN t) A1 L1 C1 D1 (by rw [hV];exact bin1)
     have h2:=λ t=>Qh0 (V.drewN t) A2 L2 C2 D2 (by rw [hV];exact bin2)
     have hlt':(i:Int)<n:=by omega
     have hwi:IntKind.i64.wrap ((i:Int)+1)=(i:Int)+1:=by rw [IntKind.wrap_i64];omega
     have HV:Hid (V=W6.drewN j/\(∀k,k<i->ls[k]?=l[k]?)/\ls[i]?=some D1/\l[i]?=some D2/\(∀z∈D1,Qaf z)/\∀z∈D2,Qaf z):=⟨hV,heq,hD1,hD2,bin1.2.2.1,bin2.2.2.1⟩
     rw [<-hV];clear hV heq hD1 hD2 hcl c1 c2 bin1 bin2;by_cases hDD:D1=D2
     ·have HD:Hid (∀k,k<i+1->ls[k]?=l[k]?):=by
       intro k hk;rcases Nat.lt_or_ge k i with h | h
       ·exact (J2 HV) k h
       ·obtain rfl:k=i:=by omega
        rw [(J3 HV),(J4 HV),hDD]
      rw [<-hDD] at h2;obtain ⟨St,eS⟩:∃St,St=strOfNums D1:=⟨_,rfl⟩
      simp only [<-eS] at h1 h2
      clear eS hDD;go_wp2
      go_quiet (fail)
      go_wp2
      go_roundw
      case rel=>exact ⟨i+1,j+nq,by simp,by omega,by rw [HV.out.1,World.drewN_drewN],HD.out⟩
      case measure=>simp [intOf];omega
     ·have h3:=Qi8 (J5 HV) (Jz5 HV) hDD
      have HE:Hid (∀t,OSt q w (V.drewN t) (q+2) s S A N C ps/\¬IsK s l):=by
       intro t;refine ⟨by rw [HV.out.1,World.drewN_drewN];exact HSt.out _,λ h=>hDD ?_⟩
       have h4:=h.2;rw [<-(J2 HS),<-(J3 HS),<-(J3 HL)] at h4;have h5:=(J3 HV)
       rw [h4,(J4 HV)] at h5;exact (Option.some.inj h5).symm
      clear hDD;go_wp2
      go_quiet (fail)
      obtain ⟨st7,hno⟩:=HE.out nq;generalize World.drewN V nq=V7 at st7 ⊢;have d0:V7.cell? ⟨q+1,0,none⟩=some (.int .u64 0):=st7.res.cell 0;have d1:V7.cell? ⟨q+1,1,none⟩=some (.slice none 0 0):=st7.res.cell 1;have z0:=st7.res.frozen 0;have z1:=st7.res.frozen 1;have HF:Hid (Blk ((V7.setCell ⟨q+1,0,none⟩ (.int .u64 0)).setCell ⟨q+1,1,none⟩ (.slice none 0 0)) (q+1) [.int .u64 0,.slice none 0 0] 82/\Qcr w s l (.returned (.tuple #[.agg #[.int .u64 0,.slice none 0 0],.int .i64 141])) ((V7.setCell ⟨q+1,0,none⟩ (.int .u64 0)).setCell ⟨q+1,1,none⟩ (.slice none 0 0))):=Qfb st7 hno;clear st7 hno HE h1 h2 h3 c1' c2';go_wp2
      exact bodyPost_ret (Qad (p:=4) (u:=5) (ty:=82) rfl _ _ (q+1) _ _ _ rfl HF.out.1 Tryz.underlying82 rfl Tryz.info_state _ rfl) rfl HF.out.2
    ·have hin:n=i:=by omega
     subst hin;have hy:IsK s l:=by
      refine ⟨by rw [<-(J3 HS)];exact (J5 HL),?_⟩
      rw [<-(J2 HS),<-(J3 HS),<-(J3 HL)];apply List.ext_getElem?
      intro k;rcases Nat.lt_or_ge k n with h | h
      ·exact heq k h
      ·rw [List.getElem?_eq_none (by have:=(J4 HL);omega),List.getElem?_eq_none (by have:=H.out.1.1;omega)]
     have st7:=HSt.out j;have hk7:KIn (W6.drewN j) A N ps:=(Jz4 HR6)
     rw [<-hV] at st7 hk7 ⊢;have HF:Hid (Blk ((V.setCell ⟨q+1,0,none⟩ (.int .u64 S)).setCell ⟨q+1,1,none⟩ (.slice A N C)) (q+1) [.int .u64 S,.slice A N C] 82/\Qcr w s l (.returned (.tuple #[.agg #[.int .u64 S,.slice A N C],.int .i64 0])) ((V.setCell ⟨q+1,0,none⟩ (.int .u64 S)).setCell ⟨q+1,1,none⟩ (.slice A N C))):=Q2o st7 (J2 HS) (J3 HS) hk7 hy;have d0:V.cell? ⟨q+1,0,none⟩=some (.int .u64 0):=st7.res.cell 0;have d1:V.cell? ⟨q+1,1,none⟩=some (.slice none 0 0):=st7.res.cell 1;have z0:=st7.res.frozen 0;have z1:=st7.res.frozen 1;have p0:V.cell? ⟨q+2,0,none⟩=some (.int .u64 S):=st7.rc.cell 0;have p1:V.cell? ⟨q+2,1,none⟩=some (.slice A N C):=st7.rc.cell 1;clear st7 hk7 hy heq hcl hV;go_wp2
     exact bodyPost_ret (Qad (p:=4) (u:=5) (ty:=82) rfl _ _ (q+1) _ _ _ rfl HF.out.1 Tryz.underlying82 rfl Tryz.info_state _ rfl) rfl HF.out.2
end
end Go.Proofs.YtcdnjeiamihhbaaGreat
namespace Go.Proofs.YtcdnjeiamihhbaaGreat
open Go.RowKit Go.Shelf
theorem Qnh {O:Nat->Prop} {W:World} {p:Nat} {s:Sh} {zs:List Zn} (hd:Dv 101 O W p s zs) :
  Calls prog 163 #[.pointer (some ⟨p,0,none⟩)] W λ e w'=>e=.returned (.agg (shL s).toArray)/\Below W.heap.size W w':=by
 obtain ⟨g,c,vs,hv⟩:=hd;obtain ⟨q,hq⟩:∃q,q=W.heap.size:=⟨_,rfl⟩
 have hb:Blk (W.alloc (.cells #[.int .i64 0,.int .i64 0,.int .i64 0,.int .i64 0] 23)) q [.int .i64 0,.int .i64 0,.int .i64 0,.int .i64 0] 23:=Blk.new' hq.symm rfl;have hbel:Below q W (W.alloc (.cells #[.int .i64 0,.int .i64 0,.int .i64 0,.int .i64 0] 23)):=(Below.refl _ _).alloc (by omega) _;have hv':=hv.under (by rw [<-hq];exact hbel);rw [<-hq];go_enter func163,ntmps163
 go_upto_region 1 with fail
 rw [<-hq];generalize hW1:World.alloc _ _=W1 at *;obtain ⟨c0,c1,c2,c3,c4⟩:=hv'.pcell;have e0:W1.cell? ⟨q,0,none⟩=some (.int .i64 0):=hb.cell 0;have e1:W1.cell? ⟨q,1,none⟩=some (.int .i64 0):=hb.cell 1;have e2:W1.cell? ⟨q,2,none⟩=some (.int .i64 0):=hb.cell 2;have e3:W1.cell? ⟨q,3,none⟩=some (.int .i64 0):=hb.cell 3;have f0:=hb.frozen 0;have f1:=hb.frozen 1;have f2:=hb.frozen 2;have f3:=hb.frozen 3;have HB:=Jh2 hb hbel;clear hb hbel hv hv' hW1 hq;go_wp2
 refine bodyPost_ret (Qap (p:=2) (ty:=23) rfl _ _ q [.int .i64 s.z,.int .i64 s.zb,.int .i64 s.b,.int .i64 s.r] _ _ rfl ((((HB.out.1.set 0 _).set 1 _).set 2 _).set 3 _) Tryz.underlying23 rfl Tryz.info_shape) rfl ⟨rfl,?_⟩
 exact (((HB.out.2.setCell (p:=⟨q,0,none⟩) (Nat.le_refl _) _).setCell (p:=⟨q,1,none⟩) (Nat.le_refl _) _).setCell (p:=⟨q,2,none⟩) (Nat.le_refl _) _).setCell (p:=⟨q,3,none⟩) (Nat.le_refl _) _
set_option maxHeartbeats 4000000 in
theorem Qv8 (slot seq:Int) (A:Option Addr) (n C:Nat) (ps:List Pl) {O:Nat->Prop} {W:World} {p:Nat} {s:Sh} {zs:List Zn} (hd:Dv 101 O W p s zs) (hw:Wf s zs) (hs:Qai seq) (hk:KIn W A n ps) (hn:n<=100000000) :
  Calls prog 111 #[.pointer (some ⟨p,0,none⟩),.int .i64 slot,.agg #[.int .u64 seq,.slice A n C]] W (Q0e 101 .i64 O W p s zs slot seq ps):=by
 obtain ⟨q,hq⟩:∃q,q=W.heap.size:=⟨_,rfl⟩
 have H:=Jh6 hd hw hs hk hn hq;have HW:Hid (Blk (W.alloc (.cells #[.int .u64 seq,.slice A n C] 82)) q [.int .u64 seq,.slice A n C] 82/\Below W.heap.size W (W.alloc (.cells #[.int .u64 seq,.slice A n C] 82))):=⟨Blk.new' hq.symm rfl,(Below.refl _ _).alloc (Nat.le_refl _) _⟩
 clear hd hw hs hk hn;by_cases hsl:0<=slot/\slot<2
 ·obtain ⟨i,rfl⟩:∃i:Nat,slot=i:=⟨slot.toNat,by omega⟩
  have hi2:(i:Int)<2:=hsl.2;obtain ⟨E,hE⟩:∃E,E=ckE s ps:=⟨_,rfl⟩
  have HE:Hid (E=ckE s ps/\svE s i ps=E/\i<2):=⟨hE,by unfold svE;rw [if_pos hsl,hE],by omega⟩
  clear hE hsl;go_enter func111,ntmps111
  go_upto_region 1 with fail
  rw [<-hq];clear hq;generalize hW1:World.alloc W _=W1 at HW ⊢;clear hW1;go_cut [15] (λ v X=>v=.bool false/\X=W1)
  case first=>
   have h01:i=0\/i=1:=by have:=(Jz2 HE);omega
   rcases h01 with rfl | rfl
   ·go_wp2_with fail
    go_meet
    exact ⟨rfl,rfl⟩
   ·go_wp2_with fail
    go_meet
    exact ⟨rfl,rfl⟩
  case rest=>
  obtain ⟨rfl,hX⟩:=hcut;replace hX:=hX.symm
  subst hX;go_upto_region 3 with fail
  have c0:W1.cell? ⟨q,0,none⟩=some (.int .u64 seq):=HW.out.1.cell 0;have c1:W1.cell? ⟨q,1,none⟩=some (.slice A n C):=HW.out.1.cell 1;have HSh:Hid (∀X,Below W1.heap.size W1 X->Calls prog 163 #[.pointer (some ⟨p,0,none⟩)] X λ e Y=>e=.returned (.agg (shL s).toArray)/\Below W1.heap.size W1 Y/\Y.cell? ⟨q,0,none⟩=some (.int .u64 seq)/\Y.cell? ⟨q,1,none⟩=some (.slice A n C)):=by
   intro X hX;refine (Qnh (Qa7 (Qa7 H.out.1 HW.out.2) hX)).mono ?_
   rintro e Y ⟨rfl,hY⟩;have hb:=hX.trans (hY.mono hX.size);have kb:=HW.out.1.below hb HW.out.1.lt;exact ⟨rfl,hb,kb.cell 0,kb.cell 1⟩
  have HEn:Hid (∀X,Below W1.heap.size W1 X->Calls prog 175 #[.agg (shL s).toArray,.agg #[.int .u64 seq,.slice A n C]] X λ e Z=>∃av nv cv,e=.returned (.tuple #[.slice av nv cv,.int .i64 E])/\RowAt (λ j=>W.heap.size<=j/\j<Z.heap.size) Z (.slice av nv cv) (ckO s seq ps)/\Below W.heap.size W Z/\Z.cell? ⟨q,0,none⟩=some (.int .u64 seq)/\Z.cell? ⟨q,1,none⟩=some (.slice A n C)):=by
   intro X hX;have hbX:=HW.out.2.trans (hX.mono HW.out.2.size);refine (Qju s seq A n C ps X (by have:=(J2 H).right.1;omega) (J3 H) ((J4 H).below hbX) (J5 H)).mono ?_
   rintro e Z ⟨v,rfl,rZ,bZ⟩;obtain ⟨av,cv,rfl⟩:=rZ.slice;have hb:=hX.trans (bZ.mono hX.size);have kb:=HW.out.1.below hb HW.out.1.lt;exact ⟨av,_,cv,by rw [HE.out.1],rZ.mono (λ c hc hlt=>⟨Nat.le_trans hbX.size hc,hlt⟩),hbX.trans (bZ.mono hbX.size),kb.cell 0,kb.cell 1⟩
  go_region_held3 (λ X=>X.cell? ⟨q,0,none⟩=some (.int .u64 seq)/\X.cell? ⟨q,1,none⟩=some (.slice A n C)) (first | exact ⟨c0,c1⟩ | exact ⟨d0,d1⟩ | exact ⟨e0,e1⟩)
   (first
   | (go_simp;go_at_call 175;refine (HEn.out _ (by exact bY)).mono ?_;rintro e Z ⟨av,nv,cv,rfl,rZ,bZ,e0,e1⟩)
   | (go_simp;go_at_call 163;refine (HSh.out _ (by exact (Below.refl _ _).drew)).mono ?_;rintro e Y ⟨rfl,bY,d0,d1⟩))
  all_goals (
   have HZ:=Jh2 rZ bZ;clear rZ bZ e0 e1 d0 d1 bY HEn HSh c0 c1;by_cases hE0:E=0
   ·subst hE0
    have hck:ckE s ps=0:=HE.out.1.symm;obtain ⟨ls,hls⟩:∃ls,ls=ckL s seq ps:=⟨_,rfl⟩
    have hO:ckO s seq ps=ls:=by unfold ckO;rw [if_pos hck,hls]
    have hsz:=Qlk (seq:=seq) hck;have hsh:=Qf7 (seq:=seq) hck;rw [<-hls] at hsz hsh;have hlz:(ls.length:Int)<=s.zb:=by rw [hls,Qbt];exact (Qb2.1 hck).2
    have hnv:nv=ls.length:=by obtain ⟨_,_,e⟩:=HZ.out.1.slice;cases e;rw [hO]
    have hiz:i<zs.length:=by have h1:=(J2 H).len;have h2:=(J2 H).right.1;have:=(Jz2 HE);omega
    have hd1:=Qa7 H.out.1.there HZ.out.2;have HL:Hid (ls=ckL s seq ps/\ckO s seq ps=ls/\(∀D∈ls,(D.length:Int)=s.b)/\Qtq ls/\(ls.length:Int)<=s.zb/\nv=ls.length/\i<zs.length/\RowAt (λ j=>W.heap.size<=j/\j<Z.heap.size) Z (.slice av nv cv) ls/\Below W.heap.size W Z):=⟨hls,hO,hsz,hsh,hlz,hnv,hiz,by rw [<-hO];exact HZ.out.1,HZ.out.2⟩
    have HD:=Jh1 hd1;have hnv4:nv<=4096:=by have h1:=(J2 H).right.2.2.2.1;omega
    clear hls hO hsz hsh hlz hnv hiz hd1 hck HZ;go_upto_region 7 with (go_at_call 176;refine (Qtx (i:Int) HD.out).mono ?_;rintro e V ⟨rfl,sV⟩)
    rw [Qgb] at sV;have HV:Hid (SvSt 101 (λ x=>O x/\x<W.heap.size) Z p s (zs.set i (ls.take 0,0)) V):=by
     have:=SvSt.step (O:=λ x=>O x/\x<W.heap.size) (W:=Z) (λ x h=>.inl h) (Out.refl _ _) sV;show SvSt 101 (λ x=>O x/\x<W.heap.size) Z p s (zs.set i (ls.take 0,0)) V;simpa using this
    clear sV;go_wp2
    go_loopw [9] (λ x wr=>∃k:Nat,x=.int .i64 k/\k<=nv/\SvSt 101 (λ x=>O x/\x<W.heap.size) Z p s (zs.set i (ls.take k,0)) wr) (λ x _=>nv - (intOf x).toNat)
    case atStart=>exact ⟨0,rfl,Nat.zero_le _,HV.out⟩
    case round=>
     obtain ⟨k,rfl,hk,O',hdk,hOk,hok⟩:=hrel;rcases Nat.lt_or_ge k nv with hlt | hge
     ·obtain ⟨D,hD⟩:∃D,ls[k]?=some D:=⟨ls[k]'(by have:=(J6 HL);omega),by simp⟩
      have row:=(J8 HL).out hok (λ r e h=>by obtain ⟨_,_,r2,_⟩:=(J8 HL);have:=r2 r e;omega) (λ c _ hc _ h=>by omega);obtain ⟨b',off,A1,L1,C1,hA,k1,k2,k3,_,k5⟩:=(row.bsin (J4 HL)).at hD;subst hA;have hAp:=Qs1 (i:Int) A1 L1 C1 D hdk (Qvc (J2 H) i k (J3 HL) (J5 HL)) k2 k3 k5;have hk':(k:Int)<nv:=by omega
      have hwk:IntKind.i64.wrap ((k:Int)+1)=(k:Int)+1:=by rw [IntKind.wrap_i64];omega
      have HA:Hid (Calls prog 177 #[.pointer (some ⟨p,0,none⟩),.int .i64 (i:Int),.slice A1 L1 C1] wr λ e w'=>(∃v,e=.returned v)/\SvSt 101 (λ x=>O x/\x<W.heap.size) Z p s (zs.set i (ls.take (k+1),0)) w'):=by
       refine hAp.mono ?_
       rintro e w' ⟨rfl,st⟩;rw [Qr1 (J7 HL) hD ((J3 HL) D (List.mem_of_getElem? hD)) (J5 HL)] at st;exact ⟨⟨_,rfl⟩,SvSt.step hOk hok st⟩
      clear hAp row k2 k3 k5 hD hdk hOk hok;go_wp2_with (go_at_call 177;refine HA.out.mono ?_;rintro e w9 ⟨⟨v9,rfl⟩,st9⟩)
      have H9:=Jh1 st9;clear st9;go_roundw
      case rel=>exact ⟨k+1,by simp,by omega,H9.out⟩
      case measure=>simp [intOf];omega
     ·obtain rfl:k=nv:=by omega
      have htk:ls.take k=ls:=List.take_of_length_le (by rw [(J6 HL)];exact Nat.le_refl _);rw [htk] at hdk;have HF:Hid (Calls prog 178 #[.pointer (some ⟨p,0,none⟩)] wr λ e w'=>(∃v,e=.returned v)/\SvSt 101 O W p s (putZ zs i ls) w'):=by
       refine (Qtv hdk).mono ?_
       rintro e w' ⟨hv,st⟩;exact ⟨hv,SvSt.of (O1:=λ x=>O x/\x<W.heap.size) (λ x h=>h.1) (Jz8 HL) (SvSt.step hOk hok st)⟩
      clear hdk hOk hok htk;go_wp2_with (go_at_call 178;refine HF.out.mono ?_;rintro e w9 ⟨⟨v9,rfl⟩,st9⟩)
      go_ret
      refine ⟨by rw [(J2 HE)];rfl,?_⟩
      unfold svZ;rw [if_pos (J2 HE),Int.toNat_natCast,<-HL.out.1];exact st9
   ·have hEb:(E != 0)=true:=by simp [hE0]
    have HN:Hid (SvSt 101 O W p s (svZ s zs i seq ps) Z):=by
     have:svZ s zs i seq ps=zs:=by unfold svZ;rw [if_neg (by rw [(J2 HE)];exact hE0)]
     rw [this];exact (SvSt.start H.out.1).under HZ.out.2
    clear hE0 HZ;go_wp2
    go_ret
    exact ⟨by rw [(J2 HE)];rfl,HN.out⟩)
 ·have HN:Hid (∀X,Below W.heap.size W X->Q0e 101 .i64 O W p s zs slot seq ps (.returned (.int .i64 1)) X):=by
   intro X hX;have h1:svE s slot ps=1:=by unfold svE;rw [if_neg hsl]
   refine ⟨by rw [h1],?_⟩
   have:svZ s zs slot seq ps=zs:=by unfold svZ;rw [if_neg (by rw [h1];decide)]
   rw [this];exact (SvSt.start H.out.1).under hX
  have h0:(slot != 0)=true:=by simp;omega
  have h1:(slot != 1)=true:=by simp;omega
  clear hsl;go_enter func111,ntmps111
  go_wp2
  go_ret
  exact HN.out _ HW.out.2
end Go.Proofs.YtcdnjeiamihhbaaGreat

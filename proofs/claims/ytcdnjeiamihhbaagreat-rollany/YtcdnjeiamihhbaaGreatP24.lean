/- P24 -/
import Derived.Laws.FloatArith
import Derived.Test.YtcdnjeiamihhbaaGreatChecked
import Derived.Laws.Externs
import Derived.Maps.OwnOps
import Derived.Test.YtcdnjeiamihhbaaGreatP23
set_option linter.unusedVariables false
set_option maxRecDepth 4000
open Go.Proofs.Tryz
namespace Go.Proofs.YtcdnjeiamihhbaaGreat
open Go.RowKit Go.Shelf
theorem Qkz (S:Nat):∀bs:List (List Int),(cutW S bs).length=bs.length->cutW S bs=bs/\∀D∈bs,D.length=S
 | [],_=>⟨rfl,by simp⟩
 | D :: bs,h=>by
  unfold cutW at h ⊢;rw [List.takeWhile_cons] at h ⊢;by_cases e:(D.length == S)=true
  ·rw [if_pos e] at h ⊢
   obtain ⟨h1,h2⟩:=Qkz S bs (by unfold cutW;simpa using h);unfold cutW at h1;refine ⟨by rw [h1],λ E hE=>?_⟩
   rcases List.mem_cons.1 hE with rfl | hE
   ·simpa using e
   ·exact h2 E hE
  ·rw [if_neg e] at h
   simp at h
theorem Q3m {T:TypeId} {O:Nat->Prop} {V w':World} {p:Nat} {s:Sh} {zs:List Zn} {g cz:Nat} {vs:List Value} {i:Nat} {z:Zn} {u u':Value} {B:List (List Int)} (hO:∀x,V.heap.size<=x->O x) (hv:DvV T O V p s zs g cz vs) (hz:zs[i]?=some z) (hu:vs[i]?=some u)
  (hr:RowAt (λ x=>V.heap.size<=x) w' u' B) (hb:Below V.heap.size V w') (d:Int) :
  w'.cell? ⟨g,i*2,none⟩=some u/\w'.cell? ⟨g,i*2+1,none⟩=some (.int .i64 z.2)/\(∀j,w'.frozen? ⟨g,j,none⟩=false)/\∃vs',DvV T O ((w'.setCell ⟨g,i*2,none⟩ u').setCell ⟨g,i*2+1,none⟩ (.int .i64 d)) p s (zs.set i (B,d)) g cz vs'/\vs'[i]?=some u':=by
 have hi:=(List.getElem?_eq_some_iff.1 hz).1;have hvl:=hv.vl;have hown:∀r,u'.ownBlock=some r->V.heap.size<=r:=by obtain ⟨uv,u1,u2,_⟩:=hr;exact u2
 obtain ⟨k1,k2,k3,hd⟩:=hv.upd (O1:=O) hz hu (Qab _ hb) (λ _ h=>h) (hr.mono (λ x hx _=>hO x hx)) (.inr hown);have hd2:=hd.setD (i:=i) (z:=(B,z.2)) (by simp [hi]) d;rw [List.set_set] at hd2;exact ⟨k1,k2,k3,_,hd2,by rw [List.getElem?_set_self (by omega)]⟩
def Qfq (s:Sh) (z:Zn):Prop:=(z.1.length:Int)<=s.zb/\0<=z.2/\z.2<=z.1.length/\∀D∈z.1,(D.length:Int)=s.b
theorem Q0z {s:Sh} {zs:List Zn} {i:Nat} {z:Zn} (hz:zs[i]?=some z) (h:¬Qfq s z):¬Wf s zs:=λ hw=>h (hw.zone z (List.mem_of_getElem? hz))
def Qes (T:TypeId) (W:World) (s:Sh) (zs:List Zn) (e:Ending) (w':World):Prop:=
 Below W.heap.size W w'/\((¬Wf s zs/\e=.returned (.pointer none))\/(Wf s zs/\∃p,e=.returned (.pointer (some ⟨p,0,none⟩))/\Dv T (λ x=>W.heap.size<=x) w' p s zs))
set_option maxHeartbeats 8000000 in
set_option maxRecDepth 20000 in
theorem Qyl (s:Sh) (a:Option Addr) (n c:Nat) (zs:List Zn) (W:World) (hz:-9223372036854775808<=s.z) (hl:ZsIn W a n zs):Calls prog 12 #[.agg (shL s).toArray,.slice a n c] W (Qes 98 W s zs):=by
 obtain ⟨q,hq⟩:∃q,q=W.heap.size:=⟨_,rfl⟩
 have hb:Blk (W.alloc (.cells #[.int .i64 s.z,.int .i64 s.zb,.int .i64 s.b,.int .i64 s.r] 23)) q (shL s) 23:=Blk.new' hq.symm rfl;have hbel:Below W.heap.size W (W.alloc (.cells #[.int .i64 s.z,.int .i64 s.zb,.int .i64 s.b,.int .i64 s.r] 23)):=(Below.refl _ _).alloc (Nat.le_refl _) _;simp only [shL]
 go_enter func12,ntmps12
 go_upto_region 1 with fail
 rw [<-hq];generalize hW1:World.alloc _ _=W1 at *;have cells:∀{V:World},Below W1.heap.size W1 V->V.cell? ⟨q,0,none⟩=some (.int .i64 s.z)/\V.cell? ⟨q,1,none⟩=some (.int .i64 s.zb)/\V.cell? ⟨q,2,none⟩=some (.int .i64 s.b)/\V.cell? ⟨q,3,none⟩=some (.int .i64 s.r):=by
  intro V hV;have h:=(Qab Non hV).blk hb id;exact ⟨h.cell 0,h.cell 1,h.cell 2,h.cell 3⟩
 obtain ⟨e0,e1,e2,e3⟩:=cells (Below.refl _ _);have HC:Hid (∀{V:World},Below W1.heap.size W1 V->V.cell? ⟨q,0,none⟩=some (.int .i64 s.z)/\V.cell? ⟨q,1,none⟩=some (.int .i64 s.zb)/\V.cell? ⟨q,2,none⟩=some (.int .i64 s.b)/\V.cell? ⟨q,3,none⟩=some (.int .i64 s.r)):=cells;have HB:Hid (Below W.heap.size W W1/\-9223372036854775808<=s.z/\ZsIn W a n zs):=⟨hbel,hz,hl⟩
 clear cells hb hbel hz hl hW1 hq;by_cases hr:Qat s
 ·have HR:Hid (Qat s):=hr
  clear hr;go_upto_region 2 with (go_at_call 39;refine (Qvr s _ (J2 HB)).mono ?_;rintro e W5 ⟨b5,(⟨hno,_⟩ | ⟨_,p,rfl,dv5⟩)⟩;(exact (hno HR.out).elim))
  obtain ⟨g0,g1,g2,g3⟩:=HC.out b5;have hnn:=(J3 HB)
  have hn1000:=(J4 HB)
  by_cases hlen:(n:Int)=s.z
  ·obtain ⟨g,cz,vs0,hv5⟩:=dv5
   have hemp:(Qb5 s.z.toNat).length=n:=by simp [Qb5];omega
   have hsb:=Qbd (J5 HR);obtain ⟨S,hS⟩:∃S:Nat,s.b=S:=⟨s.b.toNat,by omega⟩
   obtain ⟨E,hE⟩:∃E,E=Qb5 s.z.toNat:=⟨_,rfl⟩
   rw [<-hE] at hv5 hemp;have H5:Hid (DvV 98 (λ x=>W1.heap.size<=x) W5 p s E g cz vs0/\Below W1.heap.size W1 W5/\E.length=n/\zs.length=n/\s.b=S/\0<S/\S<=100000):=⟨hv5,b5,hemp,hnn,hS,by omega,by omega⟩
   rw [<-hlen] at g0;have Hlen:Hid ((n:Int)=s.z):=hlen;clear hv5 b5 hE hemp e0 e1 e2 e3 hS hsb hlen;go_wp2
   go_loopw [21] (λ x wr=>∃i:Nat,x=.int .i64 i/\i<=n/\(∃vs',DvV 98 (λ x=>W1.heap.size<=x) wr p s (upTo (λ j _=>zs.getD j ([],0)) E i) g cz vs')/\Below W1.heap.size W1 wr/\∀z∈zs.take i,Qfq s z) (λ x wr=>n - (intOf x).toNat)
   case atStart=>exact ⟨0,rfl,Nat.zero_le _,⟨vs0,by rw [Qgv];exact H5.out.1⟩,(J2 H5),by simp⟩
   case round=>
    obtain ⟨i,rfl,hi,⟨vs',hv⟩,hb,hgood⟩:=hrel;rcases Nat.lt_or_ge i n with hlt | hge
    ·obtain ⟨z,hz⟩:∃z,zs[i]?=some z:=⟨zs[i]'(by omega),by simp⟩
     obtain ⟨y,hy⟩:∃y,E[i]?=some y:=⟨E[i]'(by have:=(J3 H5);omega),by simp⟩
     have hy':=(Qcs (λ j _=>zs.getD j ([],0)) E i).trans hy;obtain ⟨ua,uc,hu,hr,z0,z1⟩:=hv.at hy';have hbw:=HB.out.1.trans (hb.mono HB.out.1.size);obtain ⟨b,off,rfl,hc⟩:=((Jz2 HB).below hbw).2.2.resolve_left (by omega);obtain ⟨A,L,C,d0,d1,hbs⟩:=hc i z hz;have hL:=hbs.1;obtain ⟨q2,hq2⟩:∃q2,q2=wr.heap.size:=⟨_,rfl⟩
     obtain ⟨dd,hdd⟩:∃dd,dd=z.2:=⟨_,rfl⟩
     rw [<-hdd] at d1;have hi':(i:Int)<(n:Int):=by omega
     have hw1:IntKind.i64.wrap ((i:Int)+1)=(i:Int)+1:=by rw [IntKind.wrap_i64];omega
     have HX:Hid (Blk (wr.alloc (.cells #[.slice A L C,.int .i64 dd] 91)) q2 [.slice A L C,.int .i64 dd] 91/\Below wr.heap.size wr (wr.alloc (.cells #[.slice A L C,.int .i64 dd] 91))):=⟨Blk.new' hq2.symm rfl,(Below.refl _ _).alloc (Nat.le_refl _) _⟩
     have HI:Hid (zs[i]?=some z/\E[i]?=some y/\DvV 98 (λ x=>W1.heap.size<=x) wr p s (upTo (λ j _=>zs.getD j ([],0)) E i) g cz vs'/\Below W1.heap.size W1 wr/\(∀z∈zs.take i,Qfq s z)/\vs'[i]?=some (.slice ua y.1.length uc)/\BsIn wr A L z.1/\z.1.length=L/\dd=z.2/\q2=wr.heap.size):=⟨hz,hy,hv,hb,hgood,hu,hbs,hL,hdd,hq2⟩
     clear hz hy hy' hv hb hgood hu hbs hr z0 z1 hc hbw hL hdd g0 g1 g2 g3;go_upto_region 7 with fail
     rw [<-hq2];generalize hVV:World.alloc _ _=V at HX ⊢;clear hVV hq2 d0 d1;have hbV:=(J4 HI).trans (HX.out.2.mono (J4 HI).size);obtain ⟨g0,g1,g2,g3⟩:=HC.out hbV;rw [(J5 H5)] at g2;have x0:V.cell? ⟨q2,0,none⟩=some (.slice A L C):=HX.out.1.cell 0;have x1:V.cell? ⟨q2,1,none⟩=some (.int .i64 dd):=HX.out.1.cell 1;have HBV:Hid (Below W1.heap.size W1 V):=hbV;have bad:∀{X:World},¬Qfq s z->Below W1.heap.size W1 X->Qes 98 W s zs (.returned (.pointer none)) X:=λ h hX=>⟨HB.out.1.trans (hX.mono HB.out.1.size),.inl ⟨Q0z HI.out.1 h,rfl⟩⟩
     have HBad:Hid (∀{X:World},¬Qfq s z->Below W1.heap.size W1 X->Qes 98 W s zs (.returned (.pointer none)) X):=bad;clear hbV bad;by_cases h1:s.zb<(L:Int)
     ·have hN:Hid (¬Qfq s z):=λ h=>by have:=h.1;have:=(J8 HI);omega
      have h1d:decide (s.zb<(L:Int))=true:=by simp;omega
      go_wp2
      go_ret
      exact HBad.out hN.out HBV.out
     ·have h1':(L:Int)<=s.zb:=by omega
      have h1d:decide (s.zb<(L:Int))=false:=by simp;omega
      by_cases h2:0<=dd/\dd<=(L:Int)
      ·skip
       have hvV:=(J3 HI).under HX.out.2;have c4V:=hvV.pcell.2.2.2.2;rw [Qa5,(J3 H5)] at c4V;obtain ⟨Lg,hLg⟩:=Qdv (J3 HI).hg;have hgl:=hLg.lt;have hgo:W1.heap.size<=g:=hvV.og;have hqlt:q<W1.heap.size:=Qaa (HC.out (Below.refl _ _)).1;obtain ⟨Lg2,hLg2⟩:=Qdv hvV.hg;have hpg:p≠g:=Qbq hvV.hp hLg2 (by decide);have hqg2:q2≠g:=by have:=(Jz9 HI);omega
       have hqg:q≠g:=by omega
       have HC9:Hid (∀X,Below V.heap.size V X->Calls prog 41 #[.agg #[.slice A L C,.int .i64 dd],.int .i64 S] X (Qvm X z.1 S dd)):=λ X hX=>Qm5 A L C S dd z.1 X ((J7 HI).below (HX.out.2.trans (hX.mono HX.out.2.size))) (J6 H5) (Jz6 H5)
       have HM9:Hid (∀w3 u',RowAt (λ x=>V.heap.size<=x) w3 u' (cutW S z.1)->Below V.heap.size V w3->
         w3.cell? ⟨g,i*2,none⟩=some (.slice ua y.1.length uc)/\w3.cell? ⟨g,i*2+1,none⟩=some (.int .i64 y.2)/\(∀j,w3.frozen? ⟨g,j,none⟩=false)/\∃vs',DvV 98 (λ x=>W1.heap.size<=x) ((w3.setCell ⟨g,i*2,none⟩ u').setCell ⟨g,i*2+1,none⟩ (.int .i64 dd)) p s ((upTo (λ j _=>zs.getD j ([],0)) E i).set i (cutW S z.1,dd)) g cz vs'/\vs'[i]?=some u'):=
        λ w3 u' h1 h2=>Q3m (λ x hx=>Nat.le_trans HBV.out.size hx) hvV ((Qcs (λ j _=>zs.getD j ([],0)) E i).trans (J2 HI)) (J6 HI) h1 h2 dd
       have HG:Hid (W1.heap.size<=g/\q2≠g/\Blk V p [.int .i64 s.z,.int .i64 s.zb,.int .i64 s.b,.int .i64 s.r,.slice (some ⟨g,0,none⟩) n cz] 98):=by
        have:=hvV.hp;rw [Qa5,(J3 H5)] at this;exact ⟨hgo,hqg2,this⟩
       have HH:Hid (0<=dd/\dd<=(L:Int)):=h2;clear hvV hLg hLg2 hgl hgo hqlt h2;obtain ⟨_,_,_,_,z0V,z1V⟩:=((J3 HI).under HX.out.2).at ((Qcs (λ j _=>zs.getD j ([],0)) E i).trans (J2 HI));go_upto_region 9 with (go_at_call 40;refine (Qcb _ _ _ _).mono ?_;rintro e w' ⟨rfl,hw'⟩;replace hw':=hw'.symm;subst hw';rw [show (decide ((0:Int)<=dd) && decide (dd<=(L:Int)))=true by simp;exact HH.out])
       refine wp_region_noPanic ?_
       go_region_law (go_simp;go_at_call 41;refine (HC9.out _ (by exact (Below.refl _ _).drew)).mono ?_;rintro e w3 ⟨v3,rfl,r3,b3⟩;obtain ⟨va,vc,hv3⟩:=r3.slice;subst hv3;obtain ⟨m5,m6,m7,vs9,hd9,hu9⟩:=HM9.out w3 _ r3 ⟨b3.os,b3.tape,b3.output,b3.size,b3.block⟩;have b3':Below V.heap.size V w3:=⟨b3.os,b3.tape,b3.output,b3.size,b3.block⟩;have bq3:=(Qab Non b3').blk HX.out.1 id;have m4:w3.cell? ⟨p,4,none⟩=some (.slice (some ⟨g,0,none⟩) n cz):=((Qab Non b3').blk (Jz2 HG) id).cell 4;have m0:w3.cell? ⟨q2,0,none⟩=some (.slice A L C):=bq3.cell 0;have m1:w3.cell? ⟨q2,1,none⟩=some (.int .i64 dd):=bq3.cell 1;have m8:=m7 (i*2);have m9:=m7 (i*2+1))
       all_goals
        refine NoPanic.normal ?_
        have HF:Hid ((∃vs',DvV 98 (λ x=>W1.heap.size<=x) ((w3.setCell ⟨g,i*2,none⟩ (.slice va (cutW S z.1).length vc)).setCell ⟨g,i*2+1,none⟩ (.int .i64 dd)) p s ((upTo (λ j _=>zs.getD j ([],0)) E i).set i (cutW S z.1,dd)) g cz vs'/\vs'[i]?=some (.slice va (cutW S z.1).length vc))/\Below W1.heap.size W1 ((w3.setCell ⟨g,i*2,none⟩ (.slice va (cutW S z.1).length vc)).setCell ⟨g,i*2+1,none⟩ (.int .i64 dd))/\Blk ((w3.setCell ⟨g,i*2,none⟩ (.slice va (cutW S z.1).length vc)).setCell ⟨g,i*2+1,none⟩ (.int .i64 dd)) q2 [.slice A L C,.int .i64 dd] 91):=by
         refine ⟨⟨vs9,hd9,hu9⟩,?_,?_⟩
         ·exact ((HBV.out.trans (b3'.mono HBV.out.size)).setCell (p:=⟨g,i*2,none⟩) HG.out.1 _).setCell (p:=⟨g,i*2+1,none⟩) HG.out.1 _
         ·exact (bq3.set_other (a:=⟨g,i*2,none⟩) (J2 HG) _).set_other (a:=⟨g,i*2+1,none⟩) (J2 HG) _
        clear hd9 hu9 b3 b3' bq3 m0 m1 m4 m5 m6 m7 m8 m9 r3 z0V z1V c4V x0 x1 g0 g1 g2 g3;generalize World.setCell _ _ _=V9 at HF ⊢;obtain ⟨vs8,hd8,hu8⟩:=HF.out.1;have n4:=hd8.pcell.2.2.2.2;rw [List.length_set,Qa5,(J3 H5)] at n4;obtain ⟨ua8,uc8,hu8',_,n0,_⟩:=hd8.at (i:=i) (z:=(cutW S z.1,dd)) (by rw [List.getElem?_set_self (by rw [Qa5,(J3 H5)];exact hlt)]);have hue:ua8=va/\uc8=vc:=by rw [hu8] at hu8';cases hu8';exact ⟨rfl,rfl⟩
        obtain ⟨rfl,rfl⟩:=hue;have n0':V9.cell? ⟨g,i*2,none⟩=some (.slice ua8 (cutW S z.1).length uc8):=n0;have n2:V9.cell? ⟨q2,0,none⟩=some (.slice A L C):=(Jz2 HF).cell 0;obtain ⟨M,hM⟩:∃M,M=(cutW S z.1).length:=⟨_,rfl⟩
        rw [<-hM] at n0' ⊢;have HMM:Hid (M=(cutW S z.1).length):=hM;clear hd8 hu8 hu8' n0 hM;by_cases hML:M=L
        ·have HN:Hid ((∃vs',DvV 98 (λ x=>W1.heap.size<=x) V9 p s (upTo (λ j _=>zs.getD j ([],0)) E (i+1)) g cz vs')/\Below W1.heap.size W1 V9/\∀z∈zs.take (i+1),Qfq s z):=by
          have hcf:=Qkz S z.1 (by rw [<-HMM.out,hML];exact (J8 HI).symm);have hdz:=(J9 HI)
          refine ⟨?_,(J2 HF),?_⟩
          ·obtain ⟨vs8,hd8,_⟩:=HF.out.1
           refine ⟨vs8,?_⟩
           rw [<-Qem _ _ (J2 HI)];have e:zs.getD i ([],0)=(cutW S z.1,dd):=by rw [hcf.1,hdz];simp [List.getD,HI.out.1]
           rw [e];exact hd8
          ·rw [Qao HI.out.1]
           intro z9 hz9;rcases List.mem_append.1 hz9 with h | h
           ·exact (J5 HI) z9 h
           ·rw [List.mem_singleton.1 h]
            have hzl:=(J8 HI)
            have hh:=HH.out;have hS:=(J5 H5)
            exact ⟨by omega,by omega,by omega,λ D hD=>by rw [hcf.2 D hD,hS]⟩
         subst hML;go_wp2
         go_region_held3 (λ X=>X.cell? ⟨p,4,none⟩=some (.slice (some ⟨g,0,none⟩) n cz)/\X.cell? ⟨g,i*2,none⟩=some (.slice ua8 M uc8)/\X.cell? ⟨q2,0,none⟩=some (.slice A M C)) (exact ⟨n4,n0',n2⟩) (fail)
         go_wp2
         go_roundw
         case rel=>exact ⟨i+1,by simp,by omega,by obtain ⟨v8,h8⟩:=HN.out.1;exact ⟨v8,h8.under (Below.refl _ _).drew⟩,(J2 HN).drew,(Jz2 HN)⟩
         case measure=>simp [intOf];omega
        ·have hN:Hid (¬Qfq s z):=λ h=>hML (by
          rw [HMM.out,Ql1 (λ D hD=>by have:=h.2.2.2 D hD;have:=(J5 H5);omega)];exact (J8 HI))
         have hML':((M:Int) == (L:Int))=false:=by simp;omega
         have hML2:(M == L)=false:=by simp [hML]
         go_wp2
         go_region_held3 (λ X=>X.cell? ⟨p,4,none⟩=some (.slice (some ⟨g,0,none⟩) n cz)/\X.cell? ⟨g,i*2,none⟩=some (.slice ua8 M uc8)/\X.cell? ⟨q2,0,none⟩=some (.slice A L C)) (exact ⟨n4,n0',n2⟩) (fail)
         go_wp2
         go_ret
         exact HBad.out hN.out (J2 HF).drew
      ·have hN:Hid (¬Qfq s z):=λ h=>h2 (by have:=h.2.1;have:=h.2.2.1;have:=(Jz7 HI);omega)
       have h2d:(decide ((0:Int)<=dd) && decide (dd<=(L:Int)))=false:=by simp;omega
       clear h2;go_wp2_with (go_at_call 40;refine (Qcb _ _ _ _).mono ?_;rintro e w' ⟨rfl,hw'⟩;replace hw':=hw'.symm;subst hw';rw [h2d])
       go_ret
       exact HBad.out hN.out HBV.out
    ·obtain rfl:i=n:=by omega
     have HF:Hid (Qes 98 W s zs (.returned (.pointer (some ⟨p,0,none⟩))) wr):=by
      refine ⟨HB.out.1.trans (hb.mono HB.out.1.size),.inr ⟨⟨HR.out,by have:=Hlen.out;omega,λ z hz=>?_⟩,p,rfl,?_⟩⟩
      ·rw [List.take_of_length_le (by omega)] at hgood
       exact hgood z hz
      ·have e:upTo (λ j _=>zs.getD j ([],0)) E i=zs:=by
        rw [Qid _ _ (by have:=(J3 H5);omega)];apply List.ext_getElem?
        intro j;rw [List.getElem?_mapIdx];by_cases hj:j<i
        ·have h1:E[j]?=some (E[j]'(by have:=(J3 H5);omega)):=by simp
         have h2:zs[j]?=some (zs[j]'(by omega)):=by simp
         rw [h1,h2];simp [List.getD,h2]
        ·rw [List.getElem?_eq_none (by have:=(J3 H5);omega),List.getElem?_eq_none (by omega)];rfl
       rw [e] at hv;exact ⟨g,cz,vs',hv.mono (λ x hx _=>Nat.le_trans HB.out.1.size hx)⟩
     clear hv hb hgood;go_wp2
     go_ret
     exact HF.out
  ·have hne:((n:Int) == s.z)=false:=by simp [hlen]
   have HN:Hid (Qes 98 W s zs (.returned (.pointer none)) W5):=⟨HB.out.1.trans (b5.mono HB.out.1.size),.inl ⟨λ h=>hlen (by have:=h.len;omega),rfl⟩⟩
   clear dv5 b5 hnn hn1000;go_wp2
   go_ret
   exact HN.out
 ·have HR:Hid (¬Qat s):=hr
  clear hr;go_wp2_with (go_at_call 39;refine (Qvr s _ (J2 HB)).mono ?_;rintro e W5 ⟨b5,(⟨_,rfl⟩ | ⟨hno,_⟩)⟩;rotate_left;(exact (HR.out hno).elim);obtain ⟨n0,m1,m2,m3⟩:=HC.out b5)
  go_ret
  exact ⟨HB.out.1.trans (b5.mono HB.out.1.size),.inl ⟨λ h=>HR.out h.right,rfl⟩⟩
end Go.Proofs.YtcdnjeiamihhbaaGreat
namespace Go.Proofs.YtcdnjeiamihhbaaGreat
open Go.RowKit Go.ChangeShapes Go.WideShapes
section
def Q3j (W:World) (v:Value) (D:List Int):Prop:=∃A L C,v=.slice A L C/\BIn W A L D/\(A=none->L=0/\C=0)/\L<=C
def Qx1 (W:World) (a:Option Addr) (n:Nat) (bs:List (List Int)):Prop:=
 bs.length=n/\n<=maxLen/\(n=0\/∃b off,a=some ⟨b,off,none⟩/\∀(i:Nat) (D:List Int),bs[i]?=some D->∃v,W.cell? ⟨b,off+i,none⟩=some v/\Q3j W v D)
def ZsRaw (W:World) (a:Option Addr) (n:Nat) (zs:List Zn):Prop:=
 zs.length=n/\n<=maxLen/\(n=0\/∃b off,a=some ⟨b,off,none⟩/\∀(i:Nat) (z:Zn),zs[i]?=some z->∃A L C,W.cell? ⟨b,off+i*2,none⟩=some (.slice A L C)/\W.cell? ⟨b,off+i*2+1,none⟩=some (.int .i64 z.2)/\Qx1 W A L z.1)
def ZnF (zs:List Zn):Prop:=∀z∈zs,F64 z.2
def Qmp (zs:List Zn):Prop:=zs.length<=60/\∀z∈zs,z.1.length<=60/\∀D∈z.1,D.length<=200
theorem ZsRaw.light {W:World} {a:Option Addr} {n:Nat} {zs:List Zn} (h:ZsRaw W a n zs) (hl:Qmp zs):ZsIn W a n zs:=by
 obtain ⟨h1,h2,h3⟩:=h;refine ⟨h1,by have:=hl.1;omega,?_⟩
 rcases h3 with h3 | ⟨b,off,ha,hc⟩
 ·exact .inl h3
 ·refine .inr ⟨b,off,ha,λ i z hi=>?_⟩
  obtain ⟨A,L,C,h4,h5,h6⟩:=hc i z hi;have hz:=hl.2 z (List.mem_of_getElem? hi);refine ⟨A,L,C,h4,h5,h6.1,by have:=hz.1;have:=h6.1;omega,?_⟩
  rcases h6.2.2 with h7 | ⟨b',off',hA,hc'⟩
  ·exact .inl h7
  ·refine .inr ⟨b',off',hA,λ k D hk=>?_⟩
   obtain ⟨v,h8,A',L',C',h9,h10,h11,h12⟩:=hc' k D hk;exact ⟨v,h8,A',L',C',h9,h10,h11,h12,by have:=hz.2 D (List.mem_of_getElem? hk);have:=h10.1;omega⟩
section
variable {H:Type} {enc:TypeId × Value->H} {W:World}
theorem Qv4 {a:Option Addr} {len cap fuel:Nat} {y:DataW H × List MemPlace} (h:DataW.trod enc prog W 0 (λ _=>true) true fuel 74 [.slice a len cap]=some y):∃bs,Qx1 W a len bs:=by
 obtain ⟨⟨h1,h2,h3⟩,h4⟩:=Qvt Tryz.underlying74 (sz:=1) (by kernel_rfl) (by decide) h;rcases h4 with rfl | ⟨b,off,rfl,hc⟩
 ·exact ⟨[],rfl,Nat.zero_le _,.inl rfl⟩
 ·obtain ⟨bs,hl,hp⟩:=Quu (n:=len) (p:=λ i (D:List Int)=>∃v,W.cell? ⟨b,off+i,none⟩=some v/\Q3j W v D) (λ i hi=>by
   obtain ⟨cs,e1,e2,f,y',e3⟩:=hc i hi;match cs,e1 with
   | [v],_=>
    obtain ⟨A,L,C,rfl⟩:=Qko Tryz.underlying71 e3;obtain ⟨D,hD,hLC,hDn⟩:=Qy2 e3;refine ⟨D,.slice A L C,?_,A,L,C,rfl,hD,hDn,hLC⟩
    have:=e2 0 (by decide);simpa using this)
  exact ⟨bs,hl,Nat.le_trans h1 h2,.inr ⟨b,off,rfl,λ i D hi=>hp i D hi⟩⟩
theorem Q2h {cs:List Value} {n:Nat} {y:DataW H × List MemPlace} (h:DataW.trod enc prog W 0 (λ _=>true) true n 91 cs=some y):∃(z:Zn) (A:Option Addr) (L C:Nat),cs=[.slice A L C,.int .i64 z.2]/\Qx1 W A L z.1/\F64 z.2:=by
 obtain ⟨xs,m,_,_,hlen,hxl,hf⟩:=DataW.trod_struct Tryz.underlying91 h;have hc2:prog.cellsOf 91=2:=by kernel_rfl
 rw [hc2] at hlen;match cs,hlen,xs,hxl with
 | [v0,v1],_,[x0,x1],_=>
  have h0:=hf 0 _ rfl;have h1:=hf 1 _ rfl;simp only [List.getElem?_cons_zero,List.getElem?_cons_succ] at h0 h1
  obtain ⟨A,L,C,rfl⟩:=Qko Tryz.underlying74 h0;obtain ⟨bs,hbs⟩:=Qv4 h0;obtain ⟨t,rfl,f1⟩:=Qnm h1;exact ⟨(bs,t),A,L,C,rfl,hbs,f1⟩
theorem Qso {a:Option Addr} {len cap:Nat} {d:DataW H} {p:List MemPlace} (h:Came enc W 24 (.slice a len cap) d p):∃zs,ZsRaw W a len zs/\ZnF zs:=by
 obtain ⟨fuel,hf⟩:=h;have hf':DataW.trod enc prog W 0 (λ _=>true) true fuel 24 [.slice a len cap]=some (d,p):=by simpa [Value.cells] using hf
 obtain ⟨⟨h1,h2,h3⟩,h4⟩:=Qvt Tryz.underlying24 (sz:=2) (by kernel_rfl) (by decide) hf';rcases h4 with rfl | ⟨b,off,rfl,hc⟩
 ·exact ⟨[],⟨rfl,Nat.zero_le _,.inl rfl⟩,λ z h=>by simp at h⟩
 ·obtain ⟨zs,hl,hp⟩:=Quu (n:=len) (p:=λ i (z:Zn)=>(∃A L C,W.cell? ⟨b,off+i*2,none⟩=some (.slice A L C)/\W.cell? ⟨b,off+i*2+1,none⟩=some (.int .i64 z.2)/\Qx1 W A L z.1)/\F64 z.2) (λ i hi=>by
   obtain ⟨cs,e1,e2,f,y',e3⟩:=hc i hi;obtain ⟨z,A,L,C,rfl,hb,hF⟩:=Q2h e3;exact ⟨z,⟨A,L,C,e2 0 (by decide),e2 1 (by decide),hb⟩,hF⟩)
  refine ⟨zs,⟨hl,Nat.le_trans h1 h2,.inr ⟨b,off,rfl,λ i z hi=>(hp i z hi).1⟩⟩,λ z hz=>?_⟩
  obtain ⟨i,hi⟩:=List.getElem?_of_mem hz;exact (hp i z hi).2
end
set_option maxHeartbeats 1000000 in
theorem Qzb (a:Option Addr) (n c:Nat) (zs:List Zn) (w:World) (h:ZsRaw w a n zs) :
  Calls prog 37 #[.slice a n c,.int .i64 60] w λ e w'=>∃k:Int,e=.returned (.int .i64 k)/\w'=w/\(k<=60->n<=60/\∀z∈zs,z.1.length<=60):=by
 have hn:n<=9223372036854775807:=by have:=h.2.1;unfold maxLen at this;omega
 have H:=Jh1 h;clear h;go_enter func37,ntmps37
 go_wp2
 go_loopw [5,6] (λ s i wr=>∃(j:Nat) (k:Int),j<=n/\s=.int .i64 k/\i=.int .i64 j/\wr=w/\(j:Int)<=k/\k<=301/\(k<=60->∀z∈zs.take j,z.1.length<=60)) (λ _ i _=>n - (intOf i).toNat)
 case atStart=>exact ⟨0,0,Nat.zero_le _,rfl,rfl,rfl,by omega,by omega,by simp⟩
 case round=>
  obtain ⟨j,k,hj,rfl,rfl,rfl,hjk,hk,hall⟩:=hrel;rcases Nat.lt_or_ge j n with hlt | hge
  ·have hj':(j:Int)<n:=by omega
   by_cases hk1:k<=60
   ·obtain ⟨b,off,ha,hc⟩:=(Jz2 H).resolve_left (by omega)
    have hkl:j<zs.length:=by rw [H.out.1];exact hlt
    obtain ⟨z,hz⟩:∃z,zs[j]?=some z:=⟨zs[j],by simp [hkl]⟩
    obtain ⟨A,L,C,e1,e2,e3⟩:=hc j z hz;subst ha;have HX:=Jh4 hz e3.1 hall hjk;have hLm:L<=9223372036854775807:=by have:=e3.2.1;unfold maxLen at this;omega
    have hwj:IntKind.i64.wrap ((j:Int)+1)=(j:Int)+1:=by rw [IntKind.wrap_i64];omega
    clear hc hz e2 e3 hall hkl;by_cases hL:(L:Int)<=60
    ·have hw1:IntKind.i64.wrap (1+(L:Int))=1+L:=by rw [IntKind.wrap_i64];omega
     have hw2:IntKind.i64.wrap (k+(1+(L:Int)))=k+(1+L):=by rw [IntKind.wrap_i64];omega
     go_wp2
     go_roundw
     case rel=>
      refine ⟨j+1,k+(1+L),by omega,by go_num,by go_num,by first | rfl | trivial,by omega,by omega,λ hk2 y hy=>?_⟩
      rw [List.take_add_one,HX.out.1] at hy;rcases List.mem_append.1 hy with h | h
      ·exact (J3 HX) (by omega) y h
      ·simp at h;rw [h,(J2 HX)];omega
     case measure=>simp [intOf];omega
    ·have hL':(60:Int)<L:=by omega
     have hw2:IntKind.i64.wrap (k+61)=k+61:=by rw [IntKind.wrap_i64];omega
     go_wp2
     go_roundw
     case rel=>exact ⟨j+1,k+61,by omega,by go_num,by go_num,by first | rfl | trivial,by omega,by omega,λ hk2=>by omega⟩
     case measure=>simp [intOf];omega
   ·have hk2:(60:Int)<k:=by omega
    go_wp2
    go_ret
    exact ⟨k,rfl,rfl,λ h=>by omega⟩
  ·obtain rfl:j=n:=by omega
   have HX:Hid (k<=60->j<=60/\∀z∈zs,z.1.length<=60):=λ h=>⟨by omega,by
    have:=hall h;rwa [List.take_of_length_le (by rw [H.out.1];omega)] at this⟩
   clear hall;go_wp2
   go_ret
   exact ⟨k,rfl,rfl,HX.out⟩
theorem ZsRaw.below {w w':World} {a:Option Addr} {n:Nat} {zs:List Zn} (h:ZsRaw w a n zs) (hb:Below w.heap.size w w'):ZsRaw w' a n zs:=by
 obtain ⟨h1,h2,h3⟩:=h;refine ⟨h1,h2,?_⟩
 rcases h3 with h3 | ⟨b,off,ha,hc⟩
 ·exact .inl h3
 ·refine .inr ⟨b,off,ha,λ i z hi=>?_⟩
  obtain ⟨A,L,C,h4,h5,h6,h7,h8⟩:=hc i z hi;refine ⟨A,L,C,by rw [hb.cell (Qaa h4)];exact h4,by rw [hb.cell (Qaa h5)];exact h5,h6,h7,?_⟩
  rcases h8 with h8 | ⟨b',off',hA,hc'⟩
  ·exact .inl h8
  ·refine .inr ⟨b',off',hA,λ k D hk=>?_⟩
   obtain ⟨v,h9,A',L',C',h10,h11,h12⟩:=hc' k D hk;exact ⟨v,by rw [hb.cell (Qaa h9)];exact h9,A',L',C',h10,h11.below hb,h12⟩
set_option maxHeartbeats 1000000 in
theorem Qpa (a:Option Addr) (n c:Nat) (zs:List Zn) (w:World) (h:ZsRaw w a n zs) :
  Calls prog 10 #[.slice a n c,.int .i64 60] w λ e w'=>∃y:Bool,e=.returned (.bool y)/\w'=w/\(y=false->Qmp zs):=by
 have H:=Jh1 h;clear h;go_enter func10,ntmps10
 go_wp2_with fail
 refine (Qzb a n c zs w H.out).mono ?_
 rintro e w1 ⟨k,rfl,hw1,hk⟩;replace hw1:=hw1.symm
 subst hw1;by_cases hk1:k<=60
 ·obtain ⟨hn,hL⟩:=hk hk1
  have HL:=Jh1 @hL;clear hk hL;go_wp2
  go_loopw [5] (λ i wr=>∃j:Nat,j<=n/\i=.int .i64 j/\wr=w/\∀z∈zs.take j,∀D∈z.1,D.length<=200) (λ i _=>n - (intOf i).toNat)
  case atStart=>exact ⟨0,Nat.zero_le _,rfl,rfl,by simp⟩
  case round=>
   obtain ⟨j,hj,rfl,rfl,hall⟩:=hrel;rcases Nat.lt_or_ge j n with hlt | hge
   ·have hj':(j:Int)<n:=by omega
    have hwj:IntKind.i64.wrap ((j:Int)+1)=(j:Int)+1:=by rw [IntKind.wrap_i64];omega
    obtain ⟨b,off,ha,hc⟩:=(Jz2 H).resolve_left (by omega);have hkl:j<zs.length:=by rw [H.out.1];exact hlt
    obtain ⟨z,hz⟩:∃z,zs[j]?=some z:=⟨zs[j],by simp [hkl]⟩
    obtain ⟨A,L,C,e1,e2,e3⟩:=hc j z hz;subst ha;have hLb:L<=60:=by have:=HL.out z (List.mem_of_getElem? hz);have:=e3.1;omega
    have HX:=Jh3 hz e3 hall;clear hc hz e2 e3 hall hkl;obtain ⟨wk,rfl⟩:∃wk,wk=wr:=⟨_,rfl⟩
    go_wp2
    go_loopw [6] (λ i wr=>∃t:Nat,t<=L/\i=.int .i64 t/\wr=wk/\∀D∈z.1.take t,D.length<=200) (λ i _=>L - (intOf i).toNat)
    case atStart=>exact ⟨0,Nat.zero_le _,rfl,rfl,by simp⟩
    case round=>
     obtain ⟨t,ht,rfl,rfl,hall⟩:=hrel;rcases Nat.lt_or_ge t L with hlt2 | hge2
     ·have ht':(t:Int)<L:=by omega
      have hwt:IntKind.i64.wrap ((t:Int)+1)=(t:Int)+1:=by rw [IntKind.wrap_i64];omega
      obtain ⟨b2,off2,hA,hc2⟩:=(J2 HX).2.2.resolve_left (by omega);have hkl:t<z.1.length:=by rw [(J2 HX).1];exact hlt2
      obtain ⟨D,hD⟩:∃D,z.1[t]?=some D:=⟨z.1[t],by simp [hkl]⟩
      obtain ⟨v,d1,A2,L2,C2,rfl,d2,d3,d4⟩:=hc2 t D hD;subst hA;have HD:=Jh3 hD d2.1 hall;clear hc2 hD d2 d3 d4 hall hkl;by_cases h2:(200:Int)<L2
      ·go_wp2
       go_ret
       exact ⟨true,rfl,rfl,λ h=>by cases h⟩
      ·have h2':(L2:Int)<=200:=by omega
       go_wp2
       go_roundw
       case rel=>
        refine ⟨t+1,by omega,by go_num,by first | rfl | trivial,λ y hy=>?_⟩
        rw [List.take_add_one,HD.out.1] at hy;rcases List.mem_append.1 hy with h | h
        ·exact (Jz2 HD) y h
        ·simp at h;rw [h,(J2 HD)];omega
       case measure=>simp [intOf];omega
     ·obtain rfl:t=L:=by omega
      have HY:Hid (∀D∈z.1,D.length<=200):=by
       rw [List.take_of_length_le (by rw [(J2 HX).1];omega)] at hall;exact hall
      clear hall;go_wp2
      go_roundw
      case rel=>
       refine ⟨j+1,by omega,by go_num,by first | rfl | trivial,λ y hy=>?_⟩
       rw [List.take_add_one,HX.out.1] at hy;rcases List.mem_append.1 hy with h | h
       ·exact (Jz2 HX) y h
       ·simp at h;rw [h];exact HY.out
      case measure=>simp [intOf];omega
   ·obtain rfl:j=n:=by omega
    have HY:Hid (Qmp zs):=by
     rw [List.take_of_length_le (by rw [H.out.1];omega)] at hall;exact ⟨by rw [H.out.1];exact hn,λ z hz=>⟨HL.out z hz,hall z hz⟩⟩
    clear hall;go_wp2
    go_ret
    exact ⟨false,rfl,rfl,λ _=>HY.out⟩
 ·have hk2:(60:Int)<k:=by omega
  clear hk;go_wp2
  go_ret
  exact ⟨true,rfl,rfl,λ h=>by cases h⟩
end
end Go.Proofs.YtcdnjeiamihhbaaGreat
namespace Go.Proofs.YtcdnjeiamihhbaaGreat
open Go.RowKit Go.Shelf
theorem Q3f {T:TypeId} {O:Nat->Prop} {V:World} {s:Sh} {zs:List Zn} {a:Option Addr} {c:Nat} (hT:T≠91/\T≠71/\T≠5) (h:ZsAt O V (.slice a zs.length c) zs) (h0:0<zs.length) (hO:O V.heap.size) :
  Dv T O (V.alloc (.cells #[.int .i64 s.z,.int .i64 s.zb,.int .i64 s.b,.int .i64 s.r,.slice a zs.length c] T)) V.heap.size s zs:=by
 have h':=h.under ((Below.refl V.heap.size V).alloc (Nat.le_refl _) (.cells #[.int .i64 s.z,.int .i64 s.zb,.int .i64 s.b,.int .i64 s.r,.slice a zs.length c] T));obtain ⟨vs,h1,h2,h3,h4,h5,h6⟩:=h';obtain ⟨g,rfl⟩:∃g,a=some ⟨g,0,none⟩:=by
  rcases h1.2 with ⟨hv,hz⟩ | ⟨g,cap,cur,hv,_⟩
  ·omega
  ·cases hv;exact ⟨g,rfl⟩
 exact ⟨g,c,vs,Blk.new' rfl rfl,h1,hO,h2 g rfl,h3,h4,h5,h6,hT⟩
set_option maxHeartbeats 4000000 in
theorem Qzm (s:Sh) (a:Option Addr) (n c:Nat) (zs:List Zn) (W:World) (hz:-9223372036854775808<=s.z) (hl:ZsIn W a n zs):Calls prog 13 #[.agg (shL s).toArray,.slice a n c] W (Qes 101 W s zs):=by
 obtain ⟨q,hq⟩:∃q,q=W.heap.size:=⟨_,rfl⟩
 have hb:Blk (W.alloc (.cells #[.int .i64 s.z,.int .i64 s.zb,.int .i64 s.b,.int .i64 s.r] 23)) q (shL s) 23:=Blk.new' hq.symm rfl;have hbel:Below W.heap.size W (W.alloc (.cells #[.int .i64 s.z,.int .i64 s.zb,.int .i64 s.b,.int .i64 s.r] 23)):=(Below.refl _ _).alloc (Nat.le_refl _) _;simp only [shL]
 go_enter func13,ntmps13
 go_upto_region 1 with fail
 rw [<-hq];generalize hW1:World.alloc _ _=W1 at *;have e0:W1.cell? ⟨q,0,none⟩=some (.int .i64 s.z):=hb.cell 0;have e1:W1.cell? ⟨q,1,none⟩=some (.int .i64 s.zb):=hb.cell 1;have e2:W1.cell? ⟨q,2,none⟩=some (.int .i64 s.b):=hb.cell 2;have e3:W1.cell? ⟨q,3,none⟩=some (.int .i64 s.r):=hb.cell 3;have hR:=Qj1 s W1 hz;simp only [shL] at hR
 have HA:=Jh3 hb hbel hl;have hn:=hl.2.1;clear hb hbel hq hW1 hl;by_cases hr:Qat s
 rotate_left
 ·have hd:decide (Qat s)=false:=by simp [hr]
  rw [hd] at hR;have HR:=Jh1 @hR;have HS:=Jh1 hr;clear hR hd hr;go_wp2_with (go_at_call 42;refine HR.out.mono ?_;rintro e W2 ⟨rfl,b2⟩)
  go_ret
  exact ⟨(J2 HA).trans (b2.mono (J2 HA).size),.inl ⟨λ h=>HS.out h.right,rfl⟩⟩
 have hd:decide (Qat s)=true:=by simp [hr]
 rw [hd] at hR;have HR:=Jh1 @hR;have HS:=Jh1 hr;clear hR hd hr;go_upto_region 2 with (go_at_call 42;refine HR.out.mono ?_;rintro e W2 ⟨rfl,b2⟩)
 have g0:=(b2.cell (Qaa e0)).trans e0;have g1:=(b2.cell (Qaa e1)).trans e1;have g2:=(b2.cell (Qaa e2)).trans e2;have g3:=(b2.cell (Qaa e3)).trans e3;have H2:=Jh2 ((J2 HA).trans (b2.mono (J2 HA).size)) ((Jz2 HA).below ((J2 HA).trans (b2.mono (J2 HA).size)));clear e0 e1 e2 e3 b2 HR;by_cases hlen:(n:Int)=s.z
 rotate_left
 ·have hne:((n:Int) != s.z)=true:=by simp [hlen]
  have HN:Hid (Qes 101 W s zs (.returned (.pointer none)) W2):=⟨H2.out.1,.inl ⟨λ h=>hlen (by have:=h.len;have:=(J2 H2);omega),rfl⟩⟩
  clear hlen;go_wp2
  go_ret
  exact HN.out
 have Hlen:=Jh1 hlen;rw [<-hlen] at g0;clear hlen;have bad:∀(d:Nat),¬Wf s zs->Qes 101 W s zs (.returned (.pointer none)) (W2.drewN d):=λ d h=>⟨H2.out.1.trans ((below_drewN W2 d).mono H2.out.1.size),.inl ⟨h,rfl⟩⟩
 have HBad:=Jh1 @bad;clear bad;go_wp2
 go_loopw [6] (λ x wr=>∃i d:Nat,x=.int .i64 i/\i<=n/\wr=W2.drewN d/\∀z∈zs.take i,Qfq s z) (λ x wr=>n - (intOf x).toNat)
 case atStart=>exact ⟨0,0,rfl,Nat.zero_le _,rfl,by simp⟩
 case round=>
  obtain ⟨i,d,rfl,hi,rfl,hgood⟩:=hrel;rcases Nat.lt_or_ge i n with hlt | hge
  ·obtain ⟨z,hz⟩:∃z,zs[i]?=some z:=⟨zs[i]'(by have:=(J2 H2);omega),by simp⟩
   obtain ⟨b,off,hab,hc⟩:=(Jz3 H2).resolve_left (by omega);subst hab;obtain ⟨A,L,C,d0,d1,hbs⟩:=hc i z hz;obtain ⟨dd,hdd⟩:∃dd,dd=z.2:=⟨_,rfl⟩
   rw [<-hdd] at d1;have hi':(i:Int)<(n:Int):=by omega
   have hw1:IntKind.i64.wrap ((i:Int)+1)=(i:Int)+1:=by rw [IntKind.wrap_i64];omega
   have hLb:=hbs.2.1;have HI:=Jh5 hz hbs hbs.1 hdd hgood;have HNo:Hid (¬Qfq s z->¬Wf s zs):=Q0z hz;clear hz hc hbs hdd hgood;by_cases h1:s.zb<(L:Int)
   ·have hN:Hid (¬Qfq s z):=λ h=>by have:=h.1;have:=(J3 HI);omega
    have h1d:decide (s.zb<(L:Int))=true:=by simp;omega
    go_wp2
    go_ret
    exact HBad.out _ (HNo.out hN.out)
   have h1d:decide (s.zb<(L:Int))=false:=by simp;omega
   by_cases h2:dd<0
   ·have hN:Hid (¬Qfq s z):=λ h=>by have:=h.2.1;have:=(J4 HI);omega
    have h2d:decide (dd<0)=true:=by simp;omega
    go_wp2
    go_ret
    exact HBad.out _ (HNo.out hN.out)
   have h2d:decide (dd<0)=false:=by simp;omega
   by_cases h3:(L:Int)<dd
   ·have hN:Hid (¬Qfq s z):=λ h=>by have:=h.2.2.1;have:=(J4 HI);have:=(J3 HI);omega
    have h3d:decide ((L:Int)<dd)=true:=by simp;omega
    go_wp2
    go_ret
    exact HBad.out _ (HNo.out hN.out)
   have h3d:decide ((L:Int)<dd)=false:=by simp;omega
   have HQ:Hid ((L:Int)<=s.zb/\0<=dd/\dd<=(L:Int)):=⟨by omega,by omega,by omega⟩
   clear h1 h2 h3;go_wp2
   go_loopw [8] (λ x wr=>∃t d:Nat,x=.int .i64 t/\t<=L/\wr=W2.drewN d/\∀D∈z.1.take t,(D.length:Int)=s.b) (λ x wr=>L - (intOf x).toNat)
   case atStart=>exact ⟨0,d,rfl,Nat.zero_le _,rfl,by simp⟩
   case round=>
    obtain ⟨t,d',rfl,ht,rfl,hall⟩:=hrel;rcases Nat.lt_or_ge t L with hlt2 | hge2
    ·have ht':(t:Int)<L:=by omega
     have hwt:IntKind.i64.wrap ((t:Int)+1)=(t:Int)+1:=by rw [IntKind.wrap_i64];omega
     obtain ⟨b2,off2,hA,hc2⟩:=(J2 HI).2.2.resolve_left (by omega);subst hA;obtain ⟨D,hD⟩:∃D,z.1[t]?=some D:=⟨z.1[t]'(by have:=(J3 HI);omega),by simp⟩
     obtain ⟨v,f1,A2,L2,C2,rfl,f2,f3,f4,f5⟩:=hc2 t D hD;have HD:=Jh3 hD f2.1 hall;clear hc2 hD f2 f3 f4 f5 hall;by_cases h4:(L2:Int)=s.b
     ·have h4d:((L2:Int) != s.b)=false:=by simp [h4]
      have H4:=Jh1 h4;clear h4;go_wp2
      go_quiet (fail)
      go_wp2
      go_roundw
      case rel=>
       refine ⟨t+1,_,by go_num,by omega,rfl,λ y hy=>?_⟩
       rw [List.take_add_one,HD.out.1] at hy;rcases List.mem_append.1 hy with h | h
       ·exact (Jz2 HD) y h
       ·simp at h;rw [h,(J2 HD)];exact H4.out
      case measure=>simp [intOf];omega
     ·have h4d:((L2:Int) != s.b)=true:=by simp [h4]
      have hN:Hid (¬Qfq s z):=λ h=>h4 (by have:=h.2.2.2 D (List.mem_of_getElem? HD.out.1);have:=(J2 HD);omega)
      clear h4;go_wp2
      go_quiet (fail)
      go_wp2
      go_ret
      rw [World.drewN_drewN];exact HBad.out _ (HNo.out hN.out)
    ·obtain rfl:t=L:=by omega
     have HY:Hid (Qfq s z):=by
      rw [List.take_of_length_le (by have:=(J3 HI);omega)] at hall;have h1:=(J3 HI)
      have h2:=(J4 HI)
      have h3:=HQ.out;exact ⟨by omega,by omega,by omega,hall⟩
     clear hall;go_wp2
     go_roundw
     case rel=>
      refine ⟨i+1,_,by go_num,by omega,rfl,λ y hy=>?_⟩
      rw [List.take_add_one,HI.out.1] at hy;rcases List.mem_append.1 hy with h | h
      ·exact (Jz4 HI) y h
      ·simp at h;rw [h];exact HY.out
     case measure=>simp [intOf];omega
  ·obtain rfl:i=n:=by omega
   have HF:Hid (Wf s zs):=by
    rw [List.take_of_length_le (by have:=(J2 H2);omega)] at hgood;exact ⟨HS.out,by have:=(J2 H2);have:=Hlen.out;omega,hgood⟩
   clear hgood;obtain ⟨V,hV⟩:∃V,V=W2.drewN d:=⟨_,rfl⟩
   have hbV:Below W2.heap.size W2 V:=by rw [hV];exact below_drewN W2 d
   have k0:=(hbV.cell (Qaa g0)).trans g0;have k1:=(hbV.cell (Qaa g1)).trans g1;have k2:=(hbV.cell (Qaa g2)).trans g2;have k3:=(hbV.cell (Qaa g3)).trans g3;have HV:=Jh2 (H2.out.1.trans (hbV.mono H2.out.1.size)) (H2.out.2.below hbV);rw [<-hV];clear hV hbV g0 g1 g2 g3;obtain ⟨Z,hZ⟩:∃Z:Int,Z=s.z:=⟨_,rfl⟩
   have HZl:Hid (zs.length=i/\0<zs.length):=⟨(J2 HV),by have:=(J2 HV);have:=HS.out.1;have:=Hlen.out;omega⟩
   have HW:Hid (∀(X:World),Below V.heap.size V X->Calls prog 43 #[.slice a i c] X (Qmq X zs)):=λ X hX=>Qrj a i c zs X (HV.out.2.below hX)
   clear hZ Z;go_wp2
   go_region_held3 (λ X=>X.cell? ⟨q,0,none⟩=some (.int .i64 (i:Int))/\X.cell? ⟨q,1,none⟩=some (.int .i64 s.zb)/\X.cell? ⟨q,2,none⟩=some (.int .i64 s.b)/\X.cell? ⟨q,3,none⟩=some (.int .i64 s.r)) (first | exact ⟨k0,k1,k2,k3⟩ | exact ⟨m0 _,m1 _,m2 _,m3 _⟩ | exact ⟨j0,j1,j2,j3⟩)
    ((go_at_call 43;refine (HW.out _ (by exact (Below.refl _ _).drew)).mono ?_;rintro e w3 ⟨v3,rfl,r3,b3⟩;obtain ⟨va,vc,hv3⟩:=r3.slice;rw [HZl.out.1] at hv3;subst hv3;have b3':Below V.heap.size V w3:=⟨b3.os,b3.tape,b3.output,b3.size,b3.block⟩;have j0:=(b3'.cell (Qaa k0)).trans k0;have j1:=(b3'.cell (Qaa k1)).trans k1;have j2:=(b3'.cell (Qaa k2)).trans k2;have j3:=(b3'.cell (Qaa k3)).trans k3;have bo:∀o,Below w3.heap.size w3 (w3.alloc o):=(λ o=>(Below.refl _ _).alloc (Nat.le_refl _) o);have m0:=(λ o=>((bo o).cell (Qaa j0)).trans j0);have m1:=(λ o=>((bo o).cell (Qaa j1)).trans j1);have m2:=(λ o=>((bo o).cell (Qaa j2)).trans j2);have m3:=(λ o=>((bo o).cell (Qaa j3)).trans j3)))
   all_goals (
    have HE:Hid (Qes 101 W s zs (.returned (.pointer (some ⟨w3.heap.size,0,none⟩))) (w3.alloc (.cells #[.int .i64 (i:Int),.int .i64 s.zb,.int .i64 s.b,.int .i64 s.r,.slice va i vc] 101))):=by
     have hb3:=HV.out.1.trans (b3'.mono HV.out.1.size);refine ⟨hb3.alloc hb3.size _,.inr ⟨HF.out,_,rfl,?_⟩⟩
     have hz:=Hlen.out;have r4:ZsAt (λ x=>W.heap.size<=x) w3 (.slice va zs.length vc) zs:=by rw [HZl.out.1];exact r3.mono (λ x hx _=>Nat.le_trans HV.out.1.size hx)
     have:=Q3f (T:=101) (s:=s) (by decide) r4 HZl.out.2 hb3.size;rw [HZl.out.1,<-hz] at this;exact this
    clear r3 b3 b3' j0 j1 j2 j3 bo m0 m1 m2 m3;go_wp2
    go_ret
    exact HE.out)
end Go.Proofs.YtcdnjeiamihhbaaGreat
namespace Go.Proofs.YtcdnjeiamihhbaaGreat
open Go.RowKit Go.ChangeShapes Go.WideShapes
section
section
variable {H:Type} {enc:TypeId × Value->H} {W:World}
end
end
end Go.Proofs.YtcdnjeiamihhbaaGreat
namespace Go.Proofs.YtcdnjeiamihhbaaGreat
def rhe (n g:Nat):Nat:=n / g+(decide (g<2*(n % g)) || (decide (g=2*(n % g)) && decide (n / g % 2=1))).toNat
def lgQ (N D:Nat):Nat:=(N / D).log2 - 52
def RQ (N D:Nat):Nat:=lgQ N D*2 ^ 52+rhe N (D*2 ^ lgQ N D)
def val (r:Nat):Nat:=if r<2 ^ 52 then r else (2 ^ 52+r % 2 ^ 52)*2 ^ (r / 2 ^ 52 - 1)
end Go.Proofs.YtcdnjeiamihhbaaGreat
namespace Go.Proofs.YtcdnjeiamihhbaaGreat
open Ieee
abbrev IR:Nat:=9218868437227405312
def sg (s:Bool) (n:Nat):Int:=if s then -(n:Int) else n
def sgn (x:Nat):Bool:=x / 2 ^ 63 % 2 == 1
def rung (x:Nat):Nat:=x % 2 ^ 63
def Nan (x:Nat):Prop:=IR<rung x
instance (x:Nat):Decidable (Nan x):=inferInstanceAs (Decidable (_<_))
def key (x:Nat):Int:=sg (sgn x) (val (rung x))
def EE:Nat:=1074
def cv (n:Nat):Nat:=min (RQ (n*2 ^ EE) 1) IR
end Go.Proofs.YtcdnjeiamihhbaaGreat
namespace Go.Proofs.YtcdnjeiamihhbaaGreat
open Go.RowKit

end Go.Proofs.YtcdnjeiamihhbaaGreat
namespace Go.Proofs.YtcdnjeiamihhbaaGreat
open Go.RowKit Ieee





abbrev one:Nat:=4607182418800017408
abbrev two:Nat:=4611686018427387904


theorem Q39 {F:List Int} (h:F.Pairwise (·<·)) {i:Nat} {x z:Int} (hz:F[i]?=some z) (hx:x∈F) (hlt:x<z):x∈F.take i:=by
 obtain ⟨j,hj,rfl⟩:=List.getElem_of_mem hx;obtain ⟨hi,rfl⟩:=List.getElem?_eq_some_iff.1 hz;rcases Nat.lt_or_ge j i with c | c
 ·exact List.mem_take_iff_getElem.2 ⟨j,by omega,rfl⟩
 ·rcases Nat.eq_or_lt_of_le c with e | e
  ·subst e;omega
  ·have:=List.pairwise_iff_getElem.1 h i j hi hj e
   omega
end Go.Proofs.YtcdnjeiamihhbaaGreat
namespace Go.Proofs.YtcdnjeiamihhbaaGreat
open Go.RowKit

end Go.Proofs.YtcdnjeiamihhbaaGreat
namespace Go.Proofs.YtcdnjeiamihhbaaGreat
open Go.RowKit Ieee
section
section
variable {w w':World} {b n:Nat} {f:Int->Int}
end
section
variable {D:Nat->Prop} {W:World} {k:Bs} {st:St} {c:Nat}
end
end
end Go.Proofs.YtcdnjeiamihhbaaGreat
namespace Go.Proofs.YtcdnjeiamihhbaaGreat
open Go.RowKit
section
section
variable {D:Nat->Prop} {W:World} {k:Bs} {st:St} {c:Nat}
end
end
section
section
variable {D D0:Nat->Prop} {W V w:World} {k:Bs} {st:St} {c:Nat}
end
end


section
def Ky (W:World) (k:Bs) (st:St) (c:Nat) (V:World):Prop:=∃D,StV D V k st c/\Below W.heap.size W V/\∀x,StO D k x->W.heap.size<=x
section
variable {W V V':World} {k:Bs} {st st':St} {c c':Nat}
theorem Ky.bel (h:Ky W k st c V):Below W.heap.size W V:=by obtain ⟨D,_,h2,_⟩:=h;exact h2
theorem Ky.under (h:Ky W k st c V) (hb:Below V.heap.size V V'):Ky W k st c V':=by
 obtain ⟨D,h1,h2,h3⟩:=h;exact ⟨D,h1.under hb,h2.trans (hb.mono h2.size),h3⟩
theorem Ky.sv {D:Nat->Prop} (h1:StV D V k st c) (h2:Below W.heap.size W V) (h3:∀x,StO D k x->W.heap.size<=x) (sv:Sv D V k st' c' V'):Ky W k st' c' V':=by
 obtain ⟨D',k1,k2,k3⟩:=sv;refine ⟨D',k1,h2.trans (k3.below h2.size (λ j hj=>h3 j hj)),λ x hx=>?_⟩
 rcases hx with hx | hx
 ·rcases k2 x hx with h | h
  ·exact h3 x (.inl h)
  ·have:=h2.size;omega
 ·exact h3 x (.inr hx)
theorem Ky.dev (h:Ky W k st c V):Calls prog 17 #[.pointer (some ⟨k.ps,0,none⟩)] V λ e w'=>e=.returned (.pointer (some ⟨k.pd,0,none⟩))/\w'=V:=by
 obtain ⟨D,h1,_⟩:=h;exact Qwk h1
end
end

section
section
variable {D D0:Nat->Prop} {W V w w':World} {k:Bs} {st:St} {c:Nat}
end
section
variable {q:Nat} {V V':World} {a av:Option Addr} {S:List Pl} {cv:Nat} {M:Pr->Option (List Int)}
end
end

section
section
variable {W V V':World} {k:Bs} {st st':St} {c c':Nat}
theorem Ky.seq (h:Ky W k st c V):Calls prog 21 #[.pointer (some ⟨k.ps,0,none⟩)] V λ e w'=>e=.returned (.int .u64 st.q)/\w'=V:=by
 obtain ⟨D,h1,_⟩:=h;exact Qul h1
end
end
section
theorem Qxw {e t ty:TypeId} {size:Nat} {z:Value} (ht:prog.underlying t=some (.slice e)) (hinfo:(prog.info? e).map (λ i=>(i.zero,i.size,i.bytes))=some (some z,1,size)) (hz:z.cells.size=1) (hsz:size<=24)
  {w:World} (base:Nat) (a0:Option Addr) (n0 c0:Nat) (xs:List Value) (hown:w.ownsRow base e 1 (.slice a0 n0 c0) n0 xs)
  (g c1:Nat) (v:Value) (hc:w.cell? ⟨g,0,none⟩=some v) (h1:v.oneCell'=true) (hle:n0+1<=1000000) (hbase:base<=w.heap.size) :
  ∃a' c' w',(Builtin.append_ #[t,t] ty #[.slice a0 n0 c0,.slice (some ⟨g,0,none⟩) 1 c1]).run prog w=.ok (.slice a' (n0+1) c') w'/\w'.ownsRow base e 1 (.slice a' (n0+1) c') (n0+1) (xs ++ [v])/\Below base w w'/\w.grownBy w' (Value.slice a0 n0 c0).ownBlock:=by
 obtain ⟨i0,hi,hz0,hz1,hz2⟩:=info_parts hinfo;have hle':=Nat.mul_le_mul hle hsz;obtain ⟨v',w',hrun,hown',hgrow,_⟩:=run_append_own (P:=prog) w base t ty e i0 z 1 size ht hi hz0 hz1 hz2 hz (by decide) _ n0 xs hown ⟨g,0,none⟩ 1 c1 [v] rfl (by
  intro j u hj;match j,hj with
  | 0,hj=>
   simp at hj
   subst hj;exact hc) (by intro u hu;simp at hu;subst hu;exact h1) (by unfold maxLen;omega) (by omega) hbase
 have hb:Below base w w':=(Below.refl base w).grown hgrow hbase (λ k hk=>(hown.lt k hk).1);obtain ⟨a',c',rfl⟩:∃a' c',v'=.slice a' (n0+1) c':=by
  rcases hown'.2 with ⟨hv,hn⟩ | ⟨g,cap,cur,hv,_⟩
  ·omega
  ·exact ⟨_,_,hv⟩
 exact ⟨a',c',w',hrun,hown',hb,hgrow⟩
section
variable {q:Nat} {V wr X:World} {st:St} {F:List Int} {i:Nat} {a1 a2:Option Addr} {c1 c2 n:Nat} {ys:List Nat} {z:Int}
end
section
variable {D M:Nat->Prop} {W:World} {k:Rs} {st:St}
end
end
def recB (zs:List Zn) (a:Pr):Option (List Int):=match blkZ zs a with
 | some E=>if decE E=0 then some E else none
 | none=>none
def endM (zs:List Zn) (z:Int):List It->Nat->Option Nat
 | [],i=>some i
 | x :: X,i=>if x.k=1 then (match blkZ zs (z,(i:Int)) with
  | some b=>if Qb9 x b=true then endM zs z X (i+1) else none
  | none=>none) else endM zs z X i
theorem Qik {zs:List Zn} {z:Int} {x:It} {X:List It} {i:Nat} (h:x.k≠1):endM zs z (x :: X) i=endM zs z X i:=by
 show (if x.k=1 then _ else _)=_;rw [if_neg h]
theorem Qf9 {zs:List Zn} {z:Int} {x:It} {X:List It} {i:Nat} {b:List Int} (h:x.k=1) (hb:blkZ zs (z,(i:Int))=some b) (hc:Qb9 x b=true):endM zs z (x :: X) i=endM zs z X (i+1):=by
 show (if x.k=1 then (match blkZ zs (z,(i:Int)) with
  | some b=>if Qb9 x b=true then endM zs z X (i+1) else none
  | none=>none) else _)=_
 rw [if_pos h,hb];simp only [hc,if_true]
theorem Qgi {zs:List Zn} {z:Int} {x:It} {X:List It} {i:Nat} (h:x.k=1) (hb:∀b,blkZ zs (z,(i:Int))=some b->Qb9 x b=false):endM zs z (x :: X) i=none:=by
 show (if x.k=1 then (match blkZ zs (z,(i:Int)) with
  | some b=>if Qb9 x b=true then endM zs z X (i+1) else none
  | none=>none) else _)=_
 rw [if_pos h];cases hz:blkZ zs (z,(i:Int)) with
 | none=>rfl
 | some b=>simp [hb b hz]
theorem Qpg {zs:List Zn} {z:Int}:∀(X:List It) (i j:Nat),endM zs z X i=some j->i<=j
 | [],i,j,h=>by cases h;exact Nat.le_refl _
 | x :: X,i,j,h=>by
  by_cases hx:x.k=1
  ·cases hb:blkZ zs (z,(i:Int)) with
   | none=>rw [Qgi hx (λ b h=>by rw [hb] at h;cases h)] at h;cases h
   | some b=>
    cases hc:Qb9 x b with
    | true=>
     rw [Qf9 hx hb hc] at h;have:=Qpg X (i+1) j h;omega
    | false=>rw [Qgi hx (λ b' h'=>by rw [hb] at h';cases h';exact hc)] at h;cases h
  ·rw [Qik hx] at h
   exact Qpg X i j h
def Qbe (zs:List Zn) (z:Int) (i:Nat):Option Nat:=match recB zs (z,(i:Int)) with
 | some E=>endM zs z (decX E) (i+1)
 | none=>none
theorem Qgc {zs:List Zn} {a:Pr} {E:List Int} (h:recB zs a=some E):blkZ zs a=some E/\decE E=0:=by
 unfold recB at h;split at h
 ·rename_i E' hE
  split at h
  ·rename_i h0
   cases h
   exact ⟨hE,h0⟩
  ·cases h
 ·cases h
theorem Qdj {zs:List Zn} {z:Int} {i e:Nat} (h:Qbe zs z i=some e):∃E,recB zs (z,(i:Int))=some E/\endM zs z (decX E) (i+1)=some e/\i<e/\i<(atZ zs z).1.length:=by
 unfold Qbe at h;split at h
 ·rename_i E hE
  refine ⟨E,hE,h,by have:=Qpg _ _ _ h;omega,?_⟩
  obtain ⟨i',j,zn,e1,e2,e3⟩:=Qct (Qgc hE).1;simp only [Prod.mk.injEq] at e1
  obtain ⟨rfl,e1⟩:=e1;have:j=i:=by omega
  subst this;have hj:=(List.getElem?_eq_some_iff.1 e3).1;unfold atZ;rw [if_pos (by omega)];simp only [Int.toNat_natCast,List.getD_eq_getElem?_getD,e2,Option.getD_some]
  exact hj
 ·cases h
def Qe6 (zs:List Zn) (z:Int):Nat->Nat->List Nat
 | 0,_=>[]
 | f+1,i=>match Qbe zs z i with
  | some e=>i :: Qe6 zs z f e
  | none=>[]
def Qay (zs:List Zn) (z:Int):List Nat:=Qe6 zs z (atZ zs z).1.length 0
theorem Qga {zs:List Zn} {z:Int} {i:Nat} (h:Qbe zs z i=none):∀f,Qe6 zs z f i=[]
 | 0=>rfl
 | f+1=>by
  show (match Qbe zs z i with
   | some e=>i :: Qe6 zs z f e
   | none=>[])=[]
  rw [h]
theorem Qfn {zs:List Zn} {z:Int} {i e f:Nat} (h:Qbe zs z i=some e):Qe6 zs z (f+1) i=i :: Qe6 zs z f e:=by
 show (match Qbe zs z i with
  | some e=>i :: Qe6 zs z f e
  | none=>[])=_
 rw [h]
def Qpv (zs:List Zn) (z:Int) (l:List Nat) (i:Nat):Prop:=∃f,Qay zs z=l ++ Qe6 zs z f i/\(atZ zs z).1.length<=i+f
theorem Qn2 (zs:List Zn) (z:Int):Qpv zs z [] 0:=⟨_,rfl,by omega⟩
theorem Qhf {zs:List Zn} {z:Int} {l:List Nat} {i:Nat} (h:Qpv zs z l i) (he:Qbe zs z i=none):Qay zs z=l:=by
 obtain ⟨f,h1,_⟩:=h;rw [h1,Qga he,List.append_nil]
theorem Qq7 {zs:List Zn} {z:Int} {l:List Nat} {i e:Nat} (h:Qpv zs z l i) (he:Qbe zs z i=some e):Qpv zs z (l ++ [i]) e:=by
 obtain ⟨f,h1,h2⟩:=h;obtain ⟨_,_,_,h3,h4⟩:=Qdj he;obtain ⟨f,rfl⟩:∃g,f=g+1:=⟨f - 1,by omega⟩
 refine ⟨f,?_,by omega⟩
 rw [h1,Qfn he,List.append_assoc];rfl
theorem Que {zs:List Zn} {z:Int} {l:List Nat} {i e:Nat} (h:Qpv zs z l i) (he:Qbe zs z i=some e):i<(atZ zs z).1.length/\i<e:=by
 obtain ⟨_,_,_,h3,h4⟩:=Qdj he;exact ⟨h4,h3⟩
end Go.Proofs.YtcdnjeiamihhbaaGreat

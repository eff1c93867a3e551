/- P31 -/
import Derived.Test.YtcdnjeiamihhbaaGreatP30
set_option linter.unusedVariables false
set_option maxRecDepth 4000
open Go.Proofs.Tryz
namespace Go.Proofs.YtcdnjeiamihhbaaGreat
open Go.RowKit
abbrev e0:Zn:=([],0)
def pC:Pt:=⟨1,6,false,List.replicate 64 0⟩
theorem Q2f:pC.Fits:=⟨by unfold Qas pC;simp,by unfold Qai pC;simp,λ z hz=>by have:=List.eq_of_mem_replicate hz;subst this;unfold Qaf;omega⟩
theorem mK6:mK s6 []=1:=by
 have hr:0<Qbl s6:=by decide
 unfold mK;exact Qjy (k:=0) (by omega) (by simp) (.inl rfl)
theorem ck6:ckE s6 []=0:=Qb2.2 ⟨⟨Qic,λ i p q hp=>by simp at hp,by simp⟩,by rw [mK6];decide⟩
theorem Q2u:∃K:List (List Int),(st0 s6).zs=[(K,(K.length:Int)),e0,e0,e0,e0,e0]/\K=ckL s6 0 []/\K.length=1:=by
 refine ⟨ckL s6 0 [],?_,rfl,by rw [Qbt,mK6]⟩
 show svZ s6 (Qb5 6) 0 0 []=_;unfold svZ;rw [if_pos (by unfold svE;rw [if_pos (by omega)];exact ck6)];rfl
theorem app6 {zs:List Zn} {a b c d f:Zn} {bs:List (List Int)} {k:Int} {D:List Int} (hz:zs=[a,b,(bs,k),c,d,f]) (hb:bs.length<8) (hD:D.length=64):appZ s6 zs 2 D=[a,b,(bs ++ [D],k),c,d,f]/\appA s6 zs 2 D=(2,(bs.length:Int)):=by
 subst hz;have hok:Qdn s6 [a,b,(bs,k),c,d,f] 2 D:=⟨by omega,by simp,by rw [hD];rfl⟩
 have hnf:¬Qbc s6 [a,b,(bs,k),c,d,f] 2:=by
  unfold Qbc;show ¬(8:Int)<=(bs.length:Int);omega
 unfold appZ appA;rw [if_pos hok,if_neg hnf,if_pos hok,if_neg hnf];exact ⟨rfl,rfl⟩
theorem Q38 {seq:Int} {p:Pt} (hp:p.x=false) (hd:p.d.length=64):GoodR [itP p] 64/\encB seq [itP p] 64=encL seq [itP p] 64/\(encB seq [itP p] 64).length=64:=by
 have hg:GoodR [itP p] 64:=⟨by simp,by show ((1:Nat):Int)<=Qbu 64;decide,λ x hx=>by
  rw [List.mem_singleton.1 hx];exact Qvf Qic (.inr (by rw [hd];rfl))⟩
 have he:encB seq [itP p] 64=encL seq [itP p] 64:=by unfold encB;rw [if_pos hg];rfl
 exact ⟨hg,he,by rw [he];exact Qfm (by simp)⟩
theorem Q0t {st:St} (hs:st.s=s6) {a b c d f:Zn} {bs:List (List Int)} {k:Int} (hz:st.zs=[a,b,(bs,k),c,d,f]) (hb:bs.length+2<=8) {p:Pt} (hp:p.x=false) (hd:p.d.length=64) :
  (Qcu st 2 [p]).zs=[a,b,(bs ++ [encB (incU st.q) [itP p] 64] ++ [p.d],k),c,d,f]/\(Qcu st 2 [p]).S=putS st.S (p.n,(2,(bs.length:Int)+1))/\(Qcu st 2 [p]).q=incU st.q/\(Qcu st 2 [p]).s=s6/\(Qcu st 2 [p]).L=if bs.length+2=8 then Qcm st.L 2 2 3 else st.L:=by
 have h1:=app6 (D:=encB (incU st.q) [itP p] 64) hz (by omega) (Q38 hp hd).2.2;have hr:recZ st 2 [p]=[a,b,(bs ++ [encB (incU st.q) [itP p] 64],k),c,d,f]:=by
  unfold recZ;rw [hs];exact h1.1
 have h2:=app6 (zs:=recZ st 2 [p]) (D:=p.d) hr (by simp;omega) hd;have hw:wrY st 2 [p] [p].length=([a,b,(bs ++ [encB (incU st.q) [itP p] 64] ++ [p.d],k),c,d,f],putS st.S (p.n,(2,(bs.length:Int)+1))):=by
  show oneP st.s 2 (recZ st 2 [p],st.S) p=_;unfold oneP;rw [if_neg (by simp [hp]),hs];show (appZ s6 (recZ st 2 [p]) 2 p.d,putS st.S (p.n,appA s6 (recZ st 2 [p]) 2 p.d))=_;rw [h2.1,h2.2];simp
 refine ⟨by show (wrY st 2 [p] [p].length).1=_;rw [hw],by show (wrY st 2 [p] [p].length).2=_;rw [hw],rfl,hs,?_⟩
 show Qti st.s (wrY st 2 [p] [p].length).1 st.L 2=_;rw [hw,hs];unfold Qti Qbv;have e:(atZ [a,b,(bs ++ [encB (incU st.q) [itP p] 64] ++ [p.d],k),c,d,f] 2).1.length=bs.length+2:=by
  show (bs ++ [encB (incU st.q) [itP p] 64] ++ [p.d]).length=_;simp
 rw [e];show (if (8:Int) - ((bs.length+2:Nat):Int)=0 then _ else _)=_;by_cases h8:bs.length+2=8
 ·rw [if_pos (by omega),if_pos h8]
 ·rw [if_neg (by omega),if_neg h8]
theorem Q2z (bs:List (List Int)) (dn:Nat):Qck bs dn 0 0=bs.take dn:=by
 unfold Qck Qi2;cases (bs.drop dn)[(0:Int).toNat]? <;> simp
theorem Q4h:∃(K:List (List Int)) (sA:St),K=ckL s6 0 []/\K.length=1/\putM (st0 s6) [pA]=(0,sA)/\sA.zs=[(K,(K.length:Int)),e0,([encB 1 [itP pA] 64,pA.d],0),e0,e0,e0]/\sA.S=putS [] ((1,5),(2,1))/\sA.q=1/\sA.s=s6/\sA.L=[4,4,2,1,1,1]:=by
 obtain ⟨K,hz,hK,hK1⟩:=Q2u;have hat:atZ (st0 s6).zs (2:Nat)=([],0):=Q27 s6 (by omega);have hR:Qbv (st0 s6).s (st0 s6).zs (2:Nat)=8:=by unfold Qbv;rw [hat];rfl
 have hL:(st0 s6).L=[4,4,1,1,1,1]:=by decide
 have hcur:curA [4,4,1,1,1,1]=((2:Nat):Int)/\curB [4,4,1,1,1,1]=true/\curL [4,4,1,1,1,1]=[4,4,2,1,1,1]:=by decide
 have hz1:Qa6 (st0 s6).s (st0 s6).zs (Qa9 pA) (st0 s6).L=(((2:Nat):Int),true,[4,4,2,1,1,1]):=by
  rw [hL,Qdc (by rw [hcur.1,hR];rintro ⟨_,h⟩;unfold Qa9 pA at h;simp at h),hcur.1,hcur.2.1,hcur.2.2]
 have hroom:(Qbu (st0 s6).s.b).toNat=2:=by decide
 have hf1:Qca (st0 s6) (2:Nat) [pA]=1:=by unfold Qca;rw [hroom,hR];rfl
 have hok1:okP (st0 s6).s [pA]:=λ p hp=>by rw [List.mem_singleton.1 hp];exact .inr (by show ((List.replicate 64 (0:Int)).length:Int)=64;simp)
 have h1:=Qrt hok1 hz1 hf1;have hw:=Q0t (st:={st0 s6 with L:=[4,4,2,1,1,1]}) (p:=pA) rfl (bs:=[]) (k:=0) hz (by simp) rfl (by simp [pA]);refine ⟨K,_,hK,hK1,h1,hw.1,hw.2.1,hw.2.2.1,hw.2.2.2.1,?_⟩
 rw [show (Qcu {st0 s6 with L:=[4,4,2,1,1,1]} ((2:Nat):Int) [pA]).L=_ from hw.2.2.2.2];rfl
theorem Q4l {K:List (List Int)} {sA:St} (hz:sA.zs=[(K,(K.length:Int)),e0,([encB 1 [itP pA] 64,pA.d],0),e0,e0,e0]) (hq:sA.q=1) (hs:sA.s=s6) (hL:sA.L=[4,4,2,1,1,1]) :
  ∃sC,putM (Qcn sA) [pC]=(0,sC)/\Qgq [] sC.zs=[(K,(K.length:Int)),e0,([encB 1 [itP pA] 64,pA.d],2),e0,e0,e0]/\sC.s=s6:=by
 have hfz:(Qcn sA).zs=[(K,(K.length:Int)),e0,([encB 1 [itP pA] 64,pA.d],2),e0,e0,e0]:=by
  show Qjw sA.zs=_;rw [hz];rfl
 have hR:Qbv (Qcn sA).s (Qcn sA).zs (2:Nat)=6:=by
  unfold Qbv;rw [hfz];show sA.s.zb - _=6;rw [hs];rfl
 have hcur2:curA [4,4,2,1,1,1]=((2:Nat):Int)/\curB [4,4,2,1,1,1]=true/\curL [4,4,2,1,1,1]=[4,4,2,1,1,1]:=by decide
 have hz2:Qa6 (Qcn sA).s (Qcn sA).zs (Qa9 pC) (Qcn sA).L=(((2:Nat):Int),true,[4,4,2,1,1,1]):=by
  rw [show (Qcn sA).L=[4,4,2,1,1,1] from hL,Qdc (by rw [hcur2.1,hR];rintro ⟨_,h⟩;unfold Qa9 pC at h;simp at h),hcur2.1,hcur2.2.1,hcur2.2.2]
 have hf2:Qca (Qcn sA) (2:Nat) [pC]=1:=by unfold Qca;rw [hR,show (Qcn sA).s=s6 from hs,show (Qbu s6.b).toNat=2 by decide];rfl
 have hok2:okP (Qcn sA).s [pC]:=λ p hp=>by rw [List.mem_singleton.1 hp];exact .inr (by rw [show (Qcn sA).s=s6 from hs];simp [pC];rfl)
 have h2:=Qrt hok2 hz2 hf2;have hw:=Q0t (st:={Qcn sA with L:=[4,4,2,1,1,1]}) (p:=pC) hs (bs:=[encB 1 [itP pA] 64,pA.d]) (k:=2) hfz (by simp) rfl (by simp [pC]);refine ⟨_,h2,?_,hw.2.2.2.1⟩
 rw [show (Qcu {Qcn sA with L:=[4,4,2,1,1,1]} ((2:Nat):Int) [pC]).zs=_ from hw.1];show [cr1 (0,0) (K,(K.length:Int)),cr1 (0,0) e0,cr1 (0,0) ([encB 1 [itP pA] 64,pA.d] ++ [_] ++ [pC.d],2),cr1 (0,0) e0,cr1 (0,0) e0,cr1 (0,0) e0]=_;unfold cr1;simp only [Q2z]
 simp
theorem Q04 {K:List (List Int)} (hK:K=ckL s6 0 []) (hK1:K.length=1) {zs:List Zn} (hz:zs=[(K,(K.length:Int)),e0,([encB 1 [itP pA] 64,pA.d],2),e0,e0,e0]) :
  Qa2 s6 zs 2=(0,[],0,0)/\Qa4 zs 0 6=[(1,2,0)]/\decX (elB zs 2 0)=[itP pA]/\blkZ zs (2,1)=some pA.d:=by
 obtain ⟨hg,he,hl⟩:=Q38 (seq:=1) (p:=pA) rfl (by simp [pA]);have hfi:(itP pA).Fits:=Qp4 Qt0 (by simp [pA]);obtain ⟨hR,hS,hX⟩:=Q2k (seq:=1) (xs:=[itP pA]) (block:=64) (by unfold Qai;omega) (λ x hx=>by rw [List.mem_singleton.1 hx];exact hfi) hg;rw [show (64:Int).toNat=64 from rfl,<-he] at hR hS hX;have hdE:decE (encB 1 [itP pA] 64)=0:=by unfold decE;rw [if_pos hR]
 have hdS:decS (encB 1 [itP pA] 64)=1:=by unfold decS;rw [if_pos hR];exact hS
 have hdX:decX (encB 1 [itP pA] 64)=[itP pA]:=by unfold decX;rw [if_pos hR];exact hX
 have hb0:blkZ zs (2,0)=some (encB 1 [itP pA] 64):=by rw [hz];rfl
 have hb1:blkZ zs (2,1)=some pA.d:=by rw [hz];rfl
 have hrB:recB zs (2,((0:Nat):Int))=some (encB 1 [itP pA] 64):=by
  unfold recB;rw [show ((2:Int),((0:Nat):Int))=(2,0) from rfl,hb0];simp only
  rw [if_pos hdE]
 have hel:elB zs 2 0=encB 1 [itP pA] 64:=by unfold elB;rw [hrB];rfl
 have hck:Qb9 (itP pA) pA.d=true:=by
  unfold Qb9 itP;rw [if_neg (by simp [pA])];simp
 have hre:Qbe zs 2 0=some 2:=by
  unfold Qbe;rw [hrB];show endM zs 2 (decX (encB 1 [itP pA] 64)) 1=some 2;rw [hdX,Qf9 (i:=1) (b:=pA.d) rfl hb1 hck];rfl
 have hsc:Qay zs 2=[0]:=by
  unfold Qay;have e:(atZ zs 2).1.length=1+1:=by rw [hz];rfl
  rw [e,Qfn hre];unfold Qe6;have hno:Qbe zs 2 2=none:=by
   cases h:Qbe zs 2 2 with
   | none=>rfl
   | some j=>
    obtain ⟨_,_,_,_,h4⟩:=Qdj h;rw [e] at h4;omega
  show (0:Nat) :: Qe6 zs 2 1 2=[0];rw [Qga hno]
 have hno2:∀k:Nat,2<k->k<6->Qay zs (k:Nat)=[]:=by
  intro k h2 h6;have e:(atZ zs (k:Nat)).1.length=0:=by
   rw [hz];rcases (show k=3\/k=4\/k=5 by omega) with rfl | rfl | rfl <;> rfl
  unfold Qay;rw [e];rfl
 refine ⟨?_,?_,by rw [hel];exact hdX,hb1⟩
 ·have hKz:zs[0]?=some (K,(K.length:Int)):=by rw [hz];rfl
  have hez:zs[1]?=some e0:=by rw [hz];rfl
  obtain ⟨k1,k2,k3⟩:=Q14 (s:=s6) (seq:=0) (ps:=[]) (by unfold Qai;omega) (by simp) ck6;rw [<-hK] at k1 k2 k3;have h1:=Qmn (s:=s6) hKz k1 (.inl (by show ¬(142:Int)=0;omega));show Qbo s6 (Qa2 s6 zs 1) (zs.getD 1 ([],0)).1 ((1:Nat):Int)=_;have e1:(zs.getD 1 ([],0)).1=[]:=by rw [hz];rfl
  rw [e1,h1,k2,k3];unfold Qbo;rw [if_neg]
  ·rfl
  ·rintro ⟨⟨_,h⟩,_⟩
   have:=congrArg List.length h;rw [Qbt] at this;have h2:mK s6 (Qaw [])=1:=mK6;rw [h2] at this;simp at this
 ·have n5:Qa4 zs 0 6=Qa4 zs 0 5 ++ Qb1 zs 0 5 (Qay zs (5:Nat)):=Qbp (by omega)
  have n4:Qa4 zs 0 5=Qa4 zs 0 4 ++ Qb1 zs 0 4 (Qay zs (4:Nat)):=Qbp (by omega);have n3:Qa4 zs 0 4=Qa4 zs 0 3 ++ Qb1 zs 0 3 (Qay zs (3:Nat)):=Qbp (by omega);have n2:Qa4 zs 0 3=Qa4 zs 0 2 ++ Qb1 zs 0 2 (Qay zs (2:Nat)):=Qbp (by omega);rw [n5,n4,n3,n2,Qi5,hno2 5 (by omega) (by omega),hno2 4 (by omega) (by omega),hno2 3 (by omega) (by omega),show Qay zs ((2:Nat):Int)=[0] from hsc];unfold Qb1;have e:decS (elB zs 2 0)=1:=by
   rw [hel];exact hdS
  simp [e]
theorem Q4b {K:List (List Int)} (hK:K=ckL s6 0 []) (hK1:K.length=1) {zs:List Zn} (hz:zs=[(K,(K.length:Int)),e0,([encB 1 [itP pA] 64,pA.d],2),e0,e0,e0]) {l:List Fo} (hl:(l.map foK).Perm (Qa4 zs (Qa2 s6 zs 2).1 zs.length)) :
  (Qa2 s6 zs 2).2.2.2=0/\(Qbb (recS s6 zs l)).1=0/\(memT (Qbb (recS s6 zs l)).2 (1,5)).isSome=true/\memT (Qbb (recS s6 zs l)).2 (1,6)=none/\Plc (Qbb (recS s6 zs l)).2.zs (Qbb (recS s6 zs l)).2.S/\(Qbb (recS s6 zs l)).2.q=1:=by
 obtain ⟨hb,hn,hx,hd⟩:=Q04 hK hK1 hz;have hlen:zs.length=6:=by rw [hz];rfl
 rw [hb,hlen] at hl;rw [show Qa4 zs (0,([]:List Pl),(0:Int),(0:Int)).1 6=[(1,2,0)] from hn] at hl;obtain ⟨f,rfl,hf⟩:∃f,l=[f]/\foK f=(1,2,0):=by
  have h1:=hl.length_eq;rw [List.length_map] at h1;match l,h1 with
  | [f],_=>exact ⟨f,rfl,by have:=hl.mem_iff.1 (List.mem_singleton.2 rfl:foK f∈[foK f]);simpa using this⟩
 obtain ⟨fs,fa,fm,fc,fz,fb⟩:=f;simp only [foK,Prod.mk.injEq] at hf
 obtain ⟨rfl,rfl,rfl⟩:=hf;have hX:foX zs ⟨1,fa,fm,fc,2,0⟩=[itP pA]:=hx;have hfo:folS (foX zs) 0 [] [⟨1,fa,fm,fc,2,0⟩]=putS [] ((1,5),(2,1)):=by
  rw [Qdz (show (1:Int)≠0 by decide) (show (1:Int)=IntKind.u64.wrap (0+1) by rw [IntKind.wrap_u64];decide)];show entS 2 [] 0 (foX zs ⟨1,fa,fm,fc,2,0⟩)=_;rw [hX];rfl
 have hfp:Qdu ((1,5),(2,1)):=⟨⟨by show Qas 1;unfold Qas;omega,by show Qai 5;unfold Qai;omega⟩,by show I64 2;unfold I64;omega,by show I64 1;unfold I64;omega⟩
 have hp1:putS [] (((1,5),(2,1)):Pl)=[((1,5),(2,1))]:=by rfl
 have hst:recS s6 zs [⟨1,fa,fm,fc,2,0⟩]=onG2 s6 zs 1 0 [((1,5),(2,1))] (Qal zs 6):=by
  unfold recS;rw [hb,hlen];show onG2 s6 zs 1 0 (folS (foX zs) 0 (Qbn zs []) [⟨1,fa,fm,fc,2,0⟩]) (Qal zs 6)=_;rw [show Qbn zs []=[] from rfl,hfo,hp1]
 have hS:(recS s6 zs [⟨1,fa,fm,fc,2,0⟩]).S=[((1,5),(2,1))]:=by rw [hst];rfl
 have hE:svE s6 1 [((1,5),(2,1))]=0:=by
  unfold svE;rw [if_pos (by omega)];refine Qb2.2 ⟨⟨Qic,λ i p q h1 h2=>?_,λ p hp=>?_⟩,?_⟩
  ·rw [List.getElem?_eq_none (by simp)] at h2
   cases h2
  ·rw [List.mem_singleton.1 hp]
   unfold InSh s6;simp
  ·have:mK s6 [((1,5),(2,1))]=1:=by decide
   rw [this];decide
 have hso:(recS s6 zs [⟨1,fa,fm,fc,2,0⟩]).o=0:=by rw [hst];rfl
 have hss:(recS s6 zs [⟨1,fa,fm,fc,2,0⟩]).s=s6:=by rw [hst];rfl
 have hsz:(recS s6 zs [⟨1,fa,fm,fc,2,0⟩]).zs=zs:=by rw [hst];rfl
 have hsq:(recS s6 zs [⟨1,fa,fm,fc,2,0⟩]).q=1:=by rw [hst];rfl
 have hm1:(Qbb (recS s6 zs [⟨1,fa,fm,fc,2,0⟩])).1=0:=by
  show svE _ (1 - _) _=0;rw [hso,hss,hS];exact hE
 have hmz:(Qbb (recS s6 zs [⟨1,fa,fm,fc,2,0⟩])).2.zs=[(K,(K.length:Int)),(ckL s6 1 [((1,5),(2,1))],((ckL s6 1 [((1,5),(2,1))]).length:Int)),([encB 1 [itP pA] 64,pA.d],2),e0,e0,e0]:=by
  show svZ _ _ (1 - _) _ _=_;rw [hso,hss,hS,hsz,hsq,show (1:Int) - 0=1 from rfl];unfold svZ;rw [if_pos hE,hz];rfl
 have hmS:(Qbb (recS s6 zs [⟨1,fa,fm,fc,2,0⟩])).2.S=[((1,5),(2,1))]:=hS;have hgd:Good [(((1,5),(2,1)):Pl)]:=by rw [<-hp1];exact good_nil.put hfp
 have hbk:blkZ (Qbb (recS s6 zs [⟨1,fa,fm,fc,2,0⟩])).2.zs (2,1)=some pA.d:=by rw [hmz];rfl
 refine ⟨by rw [hb],hm1,?_,?_,⟨by rw [hmS];exact hgd,λ x hx=>?_⟩,hsq⟩
 ·unfold memT memS
  rw [hmS,show getS [(((1,5),(2,1)):Pl)] (1,5)=some (2,1) by rfl];show (blkZ _ (2,1)).isSome=true;rw [hbk];rfl
 ·unfold memT memS
  rw [hmS,show getS [(((1,5),(2,1)):Pl)] (1,6)=none by rfl];rfl
 ·rw [hmS] at hx
  rw [List.mem_singleton.1 hx];show (blkZ _ (2,1)).isSome=true;rw [hbk];rfl
section
section
variable {W V V':World} {k:Bs} {st st':St} {c c':Nat}
theorem Ky.putn (h:Ky W k st c V) (p:Pt) (hp:p.Fits) (hd:p.d=List.replicate 64 0) (hx:p.x=false) (hc:c+1<100000) :
  Calls prog 29 #[.pointer (some ⟨k.ps,0,none⟩),.slice (some ⟨V.heap.size+1,0,none⟩) 1 1] ((V.alloc (.cells (madeCells #[.int .u8 0] 64) 5)).alloc (.cells #[.int .u32 p.t,.int .u64 p.b,.bool false,.slice (some ⟨V.heap.size,0,none⟩) 64 64] 73)) λ e w'=>e=.returned (.int .u16 (putM st [p]).1)/\Ky W k (putM st [p]).2 (c+1) w':=by
 obtain ⟨D,h1,h2,h3⟩:=h;have hmb:=Qhe 64 V;have hbV:Below V.heap.size V ((V.alloc (.cells (madeCells #[.int .u8 0] 64) 5)).alloc (.cells #[.int .u32 p.t,.int .u64 p.b,.bool false,.slice (some ⟨V.heap.size,0,none⟩) 64 64] 73)):=((Below.refl _ _).alloc (Nat.le_refl _) _).alloc (by simp) _;have hsz2:((V.alloc (.cells (madeCells #[.int .u8 0] 64) 5)).alloc (.cells #[.int .u32 p.t,.int .u64 p.b,.bool false,.slice (some ⟨V.heap.size,0,none⟩) 64 64] 73)).heap.size=V.heap.size+1+1:=by simp
 refine (Qz1 h1 p (some ⟨V.heap.size,0,none⟩) 64 64 hp (by omega) (λ h=>by cases h) (g:=V.heap.size+1) (B:=V.heap.size) hbV rfl (by rw [hx];exact Blk.new' (by simp) rfl) (by omega) (by rw [hd];exact Q2s (hmb.alloc _) (by simp) (by rw [<-hd];exact hp.2.2) (by unfold maxLen;omega)) (λ _ y hy=>by simp only [Option.map_some,Option.some.injEq] at hy;subst hy;exact ⟨Nat.le_refl _,by rw [hsz2];omega⟩) hc).mono ?_
 rintro e w' ⟨rfl,sv⟩;exact ⟨rfl,Ky.sv h1 h2 h3 sv⟩
theorem Ky.flush (h:Ky W k st c V):Calls prog 24 #[.pointer (some ⟨k.ps,0,none⟩)] V λ e w'=>(∃v,e=.returned v)/\Ky W k (Qcn st) c w':=by
 obtain ⟨D,h1,h2,h3⟩:=h;exact (Qw0 h1).mono (λ e w' hh=>⟨hh.1,Ky.sv h1 h2 h3 hh.2⟩)
theorem Ky.crash (h:Ky W k st c V):Calls prog 18 #[.pointer (some ⟨k.pd,0,none⟩),.slice none 0 0] V λ e w'=>(∃v,e=.returned v)/\Ky W k {st with zs:=Qgq [] st.zs} c w':=by
 obtain ⟨D,h1,h2,h3⟩:=h;exact (Qxq none 0 0 [] h1.dv h1.wf ⟨rfl,Nat.zero_le _,by simp,.inl rfl⟩ (λ h=>(h rfl).elim)).mono (λ e w' hh=>⟨hh.1,Ky.sv h1 h2 h3 (h1.dvstep hh.2 (h1.wf.crash []))⟩)
theorem Ky.rec (h:Ky W k st c V) (hs:SmD st.s) (hb:(Qa2 st.s st.zs 2).2.2.2=0):Calls prog 20 #[.pointer (some ⟨k.pd,0,none⟩)] V λ e w'=>∃l k2 c2,(l.map foK).Perm (Qa4 st.zs (Qa2 st.s st.zs 2).1 st.zs.length)/\Ky W k2 (Qbb (recS st.s st.zs l)).2 c2 w'/\c2<=2000/\e=.returned (.tuple #[.pointer (if (Qbb (recS st.s st.zs l)).1=0 then some ⟨k2.ps,0,none⟩ else none),.int .u16 (Qbb (recS st.s st.zs l)).1]):=by
 obtain ⟨D,h1,h2,h3⟩:=h;refine (Qif h1.dv h1.wf hs h1.lt).mono ?_
 rintro e w' (⟨hn,_⟩ | ⟨_,l,k2,V2,c2,hp,hu,hb2,⟨D',hv',hD',ho'⟩,hc2,_,hk2,rfl⟩)
 ·exact (hn hb).elim
 ·have hV2:=h2.trans (hb2.mono h2.size)
  refine ⟨l,k2,c2,hp,⟨D',hv',hV2.trans (ho'.below hV2.size (λ j hj=>?_)),λ x hx=>?_⟩,hc2,rfl⟩
  ·rcases hj with hj | hj
   ·exact h3 j (.inl hj)
   ·have:=hk2 j hj;have:=h2.size;omega
  ·rcases hx with hx | hx
   ·rcases hD' x hx with h | h
    ·exact h3 x (.inl h)
    ·have:=hV2.size;omega
   ·have:=hk2 x hx;have:=h2.size;omega
theorem Ky.get (h:Ky W k st c V) (n:Pr) (hn:Qel n) (hp:Plc st.zs st.S):Calls prog 38 #[.pointer (some ⟨k.ps,0,none⟩),.int .u32 n.1,.int .u64 n.2] V λ e w'=>∃v,e=.returned (.tuple #[v,.bool (memT st n).isSome])/\Ky W k st c w':=by
 have hu:=λ w' hb=>h.under (V':=w') hb
 obtain ⟨D,h1,h2,h3⟩:=h;exact (Q1l h1 n hn hp).mono (λ e w' hh=>by obtain ⟨v,h,_,hb⟩:=hh;exact ⟨v,h,hu w' hb⟩)
end
set_option maxHeartbeats 4000000 in
theorem Qsf (W:World):Calls prog 11 #[] W λ e w'=>e=.returned (.bool true)/\Below W.heap.size W w':=by
 have hN:=Q2v s6 W (by decide);have HN:Hid (Calls prog 25 #[.agg #[.int .i64 6,.int .i64 8,.int .i64 64,.int .i64 2]] W λ e w'=>∃k,e=.returned (.pointer (some ⟨k.ps,0,none⟩))/\Ky W k (st0 s6) 0 w'):=by
  refine hN.mono ?_
  rintro e w' ⟨hb,⟨hn,_⟩ | ⟨_,D,k,rfl,h1,h2⟩⟩
  ·exact (hn Qic).elim
  ·exact ⟨k,rfl,D,h1,hb,h2⟩
 clear hN;obtain ⟨K,sA,hK,hK1,hpA,hzA,hSA,hqA,hsA,hLA⟩:=Q4h;obtain ⟨sC,hpC,hzC,hsC⟩:=Q4l hzA hqA hsA hLA;have hmk:∀w:World,(Instr.makeSlice 71 (.int .i64 64) (.int .i64 64)).run prog w=.ok (.slice (some ⟨w.heap.size,0,none⟩) 64 64) (w.alloc (.cells (madeCells #[.int .u8 0] 64) 5)):=run_make_row' (P:=prog) 71 5 (.int .u8 0) 1 Tryz.underlying71 Tryz.zero_u8 rfl .i64 .i64 64 (by omega) (by omega);have HA:Hid (∀V k,Ky W k (st0 s6) 0 V->Calls prog 29 #[.pointer (some ⟨k.ps,0,none⟩),.slice (some ⟨V.heap.size+1,0,none⟩) 1 1] ((V.alloc (.cells (madeCells #[.int .u8 0] 64) 5)).alloc (.cells #[.int .u32 1,.int .u64 5,.bool false,.slice (some ⟨V.heap.size,0,none⟩) 64 64] 73)) λ e w'=>e=.returned (.int .u16 0)/\Ky W k sA 1 w'):=λ V k h=>by
  have:=h.putn pA Qt0 rfl rfl (by omega);rw [hpA] at this;exact this
 have HC:Hid (∀V k,Ky W k (Qcn sA) 1 V->Calls prog 29 #[.pointer (some ⟨k.ps,0,none⟩),.slice (some ⟨V.heap.size+1,0,none⟩) 1 1] ((V.alloc (.cells (madeCells #[.int .u8 0] 64) 5)).alloc (.cells #[.int .u32 1,.int .u64 6,.bool false,.slice (some ⟨V.heap.size,0,none⟩) 64 64] 73)) λ e w'=>e=.returned (.int .u16 0)/\Ky W k sC 2 w'):=λ V k h=>by
  have:=h.putn pC Q2f rfl rfl (by omega);rw [hpC] at this;exact this
 have HR:Hid (∀V k,Ky W k {sC with zs:=Qgq [] sC.zs} 2 V->Calls prog 20 #[.pointer (some ⟨k.pd,0,none⟩)] V λ e w'=>∃k2 c2 st2,Ky W k2 st2 c2 w'/\e=.returned (.tuple #[.pointer (some ⟨k2.ps,0,none⟩),.int .u16 0])/\(memT st2 (1,5)).isSome=true/\memT st2 (1,6)=none/\Plc st2.zs st2.S/\st2.q=1):=λ V k h=>by
  have hb:=(Q04 hK hK1 hzC).1;refine (h.rec (by show SmD sC.s;rw [hsC];decide) (by show (Qa2 sC.s (Qgq [] sC.zs) 2).2.2.2=0;rw [hsC,hb])).mono ?_
  rintro e w' ⟨l,k2,c2,hp,hky,_,rfl⟩;have e1:({sC with zs:=Qgq [] sC.zs}:St).s=s6:=hsC;rw [e1] at hp hky ⊢;obtain ⟨_,g1,g2,g3,g4,g5⟩:=Q4b hK hK1 hzC hp;refine ⟨k2,c2,_,hky,?_,g2,g3,g4,g5⟩
  show Ending.returned (.tuple #[.pointer (if (Qbb (recS s6 (Qgq [] sC.zs) l)).1=0 then _ else _),.int .u16 (Qbb (recS s6 (Qgq [] sC.zs) l)).1])=_;rw [g1,if_pos rfl]
 clear hpA hzA hSA hqA hsA hLA hpC hzC hsC hK hK1;go_enter func11,ntmps11
 go_wp2_with (first
  | (go_at_call 25;refine HN.out.mono ?_;rintro e W1 ⟨k,rfl,hk1⟩)
  | (go_at_call 29;refine (HA.out _ _ hk1).mono ?_;rintro e W2 ⟨rfl,hk2⟩;clear hk1)
  | (go_at_call 24;refine hk2.flush.mono ?_;rintro e W3 ⟨⟨v3,rfl⟩,hk3⟩;clear hk2)
  | (go_at_call 29;refine (HC.out _ _ hk3).mono ?_;rintro e W4 ⟨rfl,hk4⟩;clear hk3)
  | (go_at_call 17;refine hk4.dev.mono ?_;rintro e W5 ⟨rfl,rfl⟩)
  | (go_at_call 18;refine hk4.crash.mono ?_;rintro e W6 ⟨⟨v6,rfl⟩,hk6⟩;clear hk4)
  | (go_at_call 17;refine hk6.dev.mono ?_;rintro e W7 ⟨rfl,rfl⟩)
  | (go_at_call 20;refine (HR.out _ _ hk6).mono ?_;rintro e W8 ⟨k2,c2,st2,hk8,rfl,m5,m6,mp,mq⟩;clear hk6))
 have HG5:Hid (∀V,Ky W k2 st2 c2 V->Calls prog 38 #[.pointer (some ⟨k2.ps,0,none⟩),.int .u32 1,.int .u64 5] V λ e w'=>∃v,e=.returned (.tuple #[v,.bool true])/\Ky W k2 st2 c2 w'):=λ V h=>by
  have:=h.get (1,5) ⟨by show Qas 1;unfold Qas;omega,by show Qai 5;unfold Qai;omega⟩ mp;rw [m5] at this;exact this
 have HG6:Hid (∀V,Ky W k2 st2 c2 V->Calls prog 38 #[.pointer (some ⟨k2.ps,0,none⟩),.int .u32 1,.int .u64 6] V λ e w'=>∃v,e=.returned (.tuple #[v,.bool false])/\Ky W k2 st2 c2 w'):=λ V h=>by
  have:=h.get (1,6) ⟨by show Qas 1;unfold Qas;omega,by show Qai 6;unfold Qai;omega⟩ mp;rw [m6] at this;exact this
 have HSq:Hid (∀V,Ky W k2 st2 c2 V->Calls prog 21 #[.pointer (some ⟨k2.ps,0,none⟩)] V λ e w'=>e=.returned (.int .u64 1)/\w'=V):=λ V h=>by
  have:=h.seq;rw [mq] at this;exact this
 clear m5 m6 mp mq;refine (HG5.out _ hk8).mono ?_
 rintro e W9 ⟨v9,rfl,hk9⟩;clear hk8;go_wp2_with (first
  | (go_at_call 38;refine (HG6.out _ hk9).mono ?_;rintro e W10 ⟨v10,rfl,hk10⟩;clear hk9)
  | (go_at_call 21;refine (HSq.out _ hk10).mono ?_;rintro e W11 ⟨rfl,rfl⟩))
 go_ret
 exact ⟨rfl,hk10.bel⟩
end
structure RcIn (w:World) (A:Option Addr) (n:Nat) (l:List (List Int)):Prop where
 ln:l.length=n
 recd:∀(i:Nat) (E:List Int),l[i]?=some E->∃(g:Nat) (a:Option Addr) (m c:Nat),A=some ⟨g,0,none⟩/\w.cell? ⟨g,i*2,none⟩=some (.int .u64 (decS E))/\w.cell? ⟨g,i*2+1,none⟩=some (.slice a m c)/\ItsIn w a m (decX E)
theorem RcIn.below {w w':World} {A:Option Addr} {n:Nat} {l:List (List Int)} (h:RcIn w A n l) (hb:Below w.heap.size w w'):RcIn w' A n l:=by
 refine ⟨h.ln,λ i E hE=>?_⟩
 obtain ⟨g,a,m,c,rfl,h1,h2,h3⟩:=h.recd i E hE;exact ⟨g,a,m,c,rfl,(Qab Non hb).cell h1 (λ e=>e),(Qab Non hb).cell h2 (λ e=>e),h3.below hb⟩
theorem ScD.rc {q:Nat} {V wr:World} {A B:Option Addr} {n C k cB:Nat} {l:List (List Int)} {is:List Int} (h:ScD q V wr A n C B k cB l is):RcIn wr A n l:=
 ⟨h.ln,λ i E hE=>by obtain ⟨g,a,m,c,h1,h2,h3,h4,_⟩:=h.recd hE;exact ⟨g,a,m,c,h1,h2,h3,h4⟩⟩
theorem ScR.rc {q:Nat} {V wr:World} {A B:Option Addr} {n C k cB:Nat} {l:List (List Int)} {is:List Int} (h:ScR q V wr A n C B k cB l is):RcIn wr A n l:=by
 refine ⟨h.ln,λ i E hE=>?_⟩
 obtain ⟨vs,Z,r1,r2,r3,_,_⟩:=h.rows;have hil:=(List.getElem?_eq_some_iff.1 hE).1;have hln:=h.ln;obtain ⟨v,hv⟩:∃v,vs[i]?=some v:=⟨vs[i]'(by rw [r2.1];exact hil),by simp [r2.1,hil]⟩
 obtain ⟨a,m,c,rfl,hit,hz⟩:=r2.2 i E v hE hv;obtain ⟨h1,h2⟩:=Qre l vs i E _ hE hv;rcases r1.2 with ⟨hv0,hn0⟩ | ⟨g,cap,cur,hv0,_⟩
 ·omega
 ·simp only [Value.slice.injEq] at hv0
  obtain ⟨rfl,-,-⟩:=hv0;exact ⟨g,a,m,c,rfl,by rw [r1.cellAt (i*2) (by omega)];exact h1,by rw [r1.cellAt (i*2+1) (by omega)];exact h2,hit⟩
set_option maxHeartbeats 4000000 in
theorem Qx8 (A:Option Addr) (n C:Nat) (B:Option Addr) (m D:Nat) (l:List (List Int)) (W:World) (hA:RcIn W A n l) (hB:RcIn W B m l) (hn:n<=100000) :
  Calls prog 46 #[.slice A n C,.slice B m D] W λ e w'=>e=.returned (.bool true)/\Below W.heap.size W w':=by
 have hnm:n=m:=by rw [<-hA.ln,<-hB.ln]
 subst hnm;have H:=Jh3 hA hB hn;have hnn:((n:Int) != (n:Int))=false:=by simp
 clear hA hB;go_enter func46,ntmps46
 go_wp2
 go_loopw [5] (λ x wr=>∃(i k:Nat),x=.int .i64 i/\i<=n/\wr=W.drewN k) (λ x _=>n - (intOf x).toNat)
 case atStart=>exact ⟨0,0,rfl,Nat.zero_le _,rfl⟩
 case round=>
  obtain ⟨i,k,rfl,hi,rfl⟩:=hrel;rcases Nat.lt_or_ge i n with hlt | hge
  ·obtain ⟨E,hE⟩:∃E,l[i]?=some E:=⟨l[i]'(by have:=H.out.1.ln;omega),by simp⟩
   obtain ⟨ga,aa,ma,ca,rfl,r0,r1,ra⟩:=H.out.1.recd i E hE;obtain ⟨gb,ab,mb,cb,rfl,s0,s1,rb⟩:=(J2 H).recd i E hE;have hmm:mb=ma:=by rw [<-ra.1,<-rb.1]
   subst hmm;obtain ⟨S,hS⟩:∃S,S=decS E:=⟨_,rfl⟩
   rw [<-hS] at r0 s0;have hss:(S != S)=false:=by simp
   have hmb:((mb:Int) != (mb:Int))=false:=by simp
   have hi':(i:Int)<n:=by omega
   have hwi:IntKind.i64.wrap ((i:Int)+1)=(i:Int)+1:=by rw [IntKind.wrap_i64];omega
   have HI:Hid (ItsIn W aa mb (decX E)/\ItsIn W ab mb (decX E)/\mb<=214):=⟨ra,rb,by have h1:=ra.1;have h2:=Qru E;omega⟩
   clear ra rb hS hE;go_wp2
   go_quiet (fail)
   go_wp2
   go_loopw [6] (λ x wr=>∃(j k:Nat),x=.int .i64 j/\j<=mb/\wr=W.drewN k) (λ x _=>mb - (intOf x).toNat)
   case atStart=>exact ⟨0,_,rfl,Nat.zero_le _,World.drewN_drewN _ _ _⟩
   case round=>
    obtain ⟨j,k2,rfl,hj,rfl⟩:=hrel;rcases Nat.lt_or_ge j mb with hjl | hjg
    ·obtain ⟨x,hx⟩:∃x,(decX E)[j]?=some x:=⟨(decX E)[j]'(by have:=HI.out.1.1;omega),by simp⟩
     obtain ⟨b1,o1,rfl,hc1⟩:=HI.out.1.2.2.2.resolve_left (by omega);obtain ⟨b2,o2,rfl,hc2⟩:=(J2 HI).2.2.2.resolve_left (by omega);have f0:W.cell? ⟨b1,o1+j*5,none⟩=some (.int .u32 x.t):=hc1 j x hx 0 _ rfl;have f1:W.cell? ⟨b1,o1+j*5+1,none⟩=some (.int .u64 x.b):=hc1 j x hx 1 _ rfl;have f2:W.cell? ⟨b1,o1+j*5+2,none⟩=some (.int .u8 x.k):=hc1 j x hx 2 _ rfl;have f3:W.cell? ⟨b1,o1+j*5+3,none⟩=some (.int .u32 x.s):=hc1 j x hx 3 _ rfl;have f4:W.cell? ⟨b1,o1+j*5+4,none⟩=some (.int .u16 x.e):=hc1 j x hx 4 _ rfl;have g0:W.cell? ⟨b2,o2+j*5,none⟩=some (.int .u32 x.t):=hc2 j x hx 0 _ rfl;have g1:W.cell? ⟨b2,o2+j*5+1,none⟩=some (.int .u64 x.b):=hc2 j x hx 1 _ rfl;have g2:W.cell? ⟨b2,o2+j*5+2,none⟩=some (.int .u8 x.k):=hc2 j x hx 2 _ rfl;have g3:W.cell? ⟨b2,o2+j*5+3,none⟩=some (.int .u32 x.s):=hc2 j x hx 3 _ rfl;have g4:W.cell? ⟨b2,o2+j*5+4,none⟩=some (.int .u16 x.e):=hc2 j x hx 4 _ rfl;have hj':(j:Int)<mb:=by omega
     have hwj:IntKind.i64.wrap ((j:Int)+1)=(j:Int)+1:=by rw [IntKind.wrap_i64];have:=(Jz2 HI);omega
     clear hc1 hc2 hx;go_wp2
     go_quiet (fail)
     go_wp2
     first
      | exact ⟨⟨j+1,_,by simp,by omega,rfl⟩,by simp [intOf];omega⟩
      | (go_roundw
         case rel=>exact ⟨j+1,_,by go_num,by omega,rfl⟩
         case measure=>simp [intOf];omega)
    ·obtain rfl:j=mb:=by omega
     have hjg':¬((j:Int)<j):=by omega
     go_wp2
     first
      | exact ⟨⟨i+1,_,by simp,by omega,rfl⟩,by simp [intOf];omega⟩
      | (go_roundw
         case rel=>exact ⟨i+1,_,by go_num,by omega,rfl⟩
         case measure=>simp [intOf];omega)
  ·obtain rfl:i=n:=by omega
   have hge':¬((i:Int)<i):=by omega
   go_wp2
   go_ret
   exact ⟨rfl,below_drewN W k⟩
theorem Qn1 (s:Sh) (zs:List Zn):∀k,(Qa2 s zs k).2.2.2=0\/(Qa2 s zs k).2.2.2=142
 | 0=>.inr rfl
 | k+1=>by
  show (Qbo s (Qa2 s zs k) (zs.getD k ([],0)).1 (k:Int)).2.2.2=0\/(Qbo s (Qa2 s zs k) (zs.getD k ([],0)).1 (k:Int)).2.2.2=142;unfold Qbo;split
  ·exact .inl rfl
  ·exact Qn1 s zs k
theorem Qw6 (st:St):(Qbb st).1=0\/(Qbb st).1=140\/(Qbb st).1=141\/(Qbb st).1=1:=by
 show svE st.s (1 - st.o) st.S=0\/svE st.s (1 - st.o) st.S=140\/svE st.s (1 - st.o) st.S=141\/svE st.s (1 - st.o) st.S=1;unfold svE ckE;split
 ·split
  ·split
   ·exact .inl rfl
   ·exact .inr (.inl rfl)
  ·exact .inr (.inr (.inl rfl))
 ·exact .inr (.inr (.inr rfl))
theorem Qt1 {s:Sh} {zs:List Zn} {l l':List Fo} (h:l.map foK=l'.map foK):recS s zs l=recS s zs l':=by
 unfold recS;rw [Qjq _ _ h,Qtn _ h]
structure Two2 (B:Nat) (W0:World) (O O':Nat->Prop) (p p':Nat) (s:Sh) (zs:List Zn) (W:World):Prop where
 d:Dv 98 O W p s zs
 r:Dv 101 O' W p' s zs
 w:Wf s zs
 sm:SmD s
 lo:∀x,O x->B<=x/\x<W.heap.size
 lo':∀x,O' x->B<=x/\x<W.heap.size
 ap:∀x,O x->¬O' x
 bel:Below B W0 W
theorem Two2.size {B:Nat} {W0:World} {O O':Nat->Prop} {p p':Nat} {s:Sh} {zs:List Zn} {W:World} (h:Two2 B W0 O O' p p' s zs W):B<=W.heap.size:=by
 obtain ⟨g,c,vs,hv⟩:=h.d;have:=h.lo p hv.op;omega
theorem Two2.under {B:Nat} {W0:World} {O O':Nat->Prop} {p p':Nat} {s:Sh} {zs:List Zn} {W V:World} (h:Two2 B W0 O O' p p' s zs W) (hb:Below W.heap.size W V):Two2 B W0 O O' p p' s zs V:=
 ⟨h.d.later hb,h.r.later hb,h.w,h.sm,λ x hx=>⟨(h.lo x hx).1,by have:=(h.lo x hx).2;have:=hb.size;omega⟩,λ x hx=>⟨(h.lo' x hx).1,by have:=(h.lo' x hx).2;have:=hb.size;omega⟩,h.ap,h.bel.trans (hb.mono h.size)⟩
def Q4i (B:Nat) (W0:World) (O O':Nat->Prop) (p p':Nat) (s:Sh) (zs:List Zn) (V:World) (e:Ending) (w1:World):Prop:=
 ∃(er:Int) (ps:Option Addr),e=.returned (.tuple #[.pointer ps,.int .u16 er])/\(er=0\/er=140\/er=141\/er=142\/er=1)/\(er≠0->ps=none)/\
  Calls prog 48 #[.pointer (some ⟨p',0,none⟩)] w1 λ e w2=>∃rs:Option Addr,e=.returned (.tuple #[.pointer rs,.int .i64 er])/\Below B W0 w2/\(er=0->∃a b st,ps=some ⟨a,0,none⟩/\rs=some ⟨b,0,none⟩/\Bo B W0 a b st 2000 w2)
theorem Qxg {B:Nat} {W0:World} {O O':Nat->Prop} {p p':Nat} {s:Sh} {zs:List Zn} {V:World} (h:Two2 B W0 O O' p p' s zs V) :
  Calls prog 20 #[.pointer (some ⟨p,0,none⟩)] V (Q4i B W0 O O' p p' s zs V):=by
 refine (Qif h.d h.w h.sm (λ x hx=>(h.lo x hx).2)).mono ?_
 have hBV:=h.size;rintro e w1 (⟨h0,rfl,hb⟩ | ⟨h0,l,k,V1,c,hp,hu,hbV,⟨D1,hv,hD,ho⟩,hc,hS,hk,rfl⟩)
 ·refine ⟨_,_,rfl,?_,λ _=>rfl,?_⟩
  ·rcases Qn1 s zs 2 with e | e
   ·exact .inl e
   ·exact .inr (.inr (.inr (.inl e)))
  ·have h1:=h.under hb
   refine (Qjf h1.r h1.w h1.sm (λ x hx=>(h1.lo' x hx).2)).mono ?_
   rintro e w2 (⟨_,rfl,hb2⟩ | ⟨hz,_⟩)
   ·exact ⟨none,rfl,h1.bel.trans (hb2.mono h1.size),λ e=>(h0 e).elim⟩
   ·exact (h0 hz).elim
 ·-- the program's store is there
  have hVs:=hbV.size;have hos:=ho.size;have hSt:∀x,StO D1 k x->(O x\/V.heap.size<=x)/\x<w1.heap.size:=λ x hx=>by
   refine ⟨?_,hv.all x hx⟩
   rcases hx with hx | hx
   ·rcases hD x hx with h1 | h1
    ·exact .inl h1
    ·exact .inr (by omega)
   ·exact .inr (hk x hx)
  have hO1:Out (λ x=>O x\/V.heap.size<=x) V w1:=(Qab _ hbV).trans ho (λ j hj=>by
   rcases hj with hj | hj
   ·exact .inl (.inl hj)
   ·exact .inl (.inr (hk j hj)))
  have hr1:Dv 101 O' w1 p' s zs:=by
   obtain ⟨g,cc,vs,hdv⟩:=h.r;exact ⟨g,cc,vs,hdv.out hO1 (λ x hx hn=>by
    rcases hn with hn | hn
    ·exact h.ap x hn hx
    ·have:=(h.lo' x hx).2;omega)⟩
  have hb1:Below B W0 w1:=h.bel.trans (hO1.below hBV (λ j hj=>by
   rcases hj with hj | hj
   ·exact (h.lo j hj).1
   ·omega))
  refine ⟨_,_,rfl,?_,λ hne=>if_neg hne,?_⟩
  ·rcases Qw6 (recS s zs l) with e | e | e | e
   ·exact .inl e
   ·exact .inr (.inl e)
   ·exact .inr (.inr (.inl e))
   ·exact .inr (.inr (.inr (.inr e)))
  ·refine (Qjf hr1 h.w h.sm (λ x hx=>by have:=(h.lo' x hx).2;have:=hO1.size;omega)).mono ?_
   rintro e w2 (⟨hz,_⟩ | ⟨_,l',k',V2,R,hp',hu',hbV2,⟨D2,M2,hv2,hD2,ho2⟩,hR,rfl⟩)
   ·exact (hz h0).elim
   ·have hkeys:l.map foK=l'.map foK:=Q10 hu hu' (hp.trans hp'.symm)
    have hrec:recS s zs l=recS s zs l':=Qt1 hkeys;rw [<-hrec] at hv2 ⊢;have hO2:Out R w1 w2:=(Qab _ hbV2).trans ho2 (λ j hj=>.inl hj);have hBw:B<=w1.heap.size:=by have:=hO1.size;omega
    have hb2:Below B W0 w2:=hb1.trans (hO2.below hBw (λ j hj=>by
     rcases hR j hj with h1 | h1
     ·exact (h.lo' j h1).1
     ·omega))
    have hRn:∀x,StO D1 k x->¬R x:=λ x hx hr=>by
     obtain ⟨h1,h2⟩:=hSt x hx;rcases hR x hr with h3 | h3
     ·rcases h1 with h1 | h1
      ·exact h.ap x h1 h3
      ·have:=(h.lo' x h3).2;omega
     ·omega
    refine ⟨_,rfl,hb2,λ he=>?_⟩
    refine ⟨k.ps,k'.ps,_,by rw [if_pos he],by rw [if_pos he],D1,k,D2,M2,k',rfl,rfl,(hv.out hO2 hRn).mono hc,hv2,λ x hx=>?_,λ x hx=>?_,λ x hx hx2=>?_,hb2,by omega⟩
    ·rcases (hSt x hx).1 with h1 | h1
     ·exact (h.lo x h1).1
     ·omega
    ·rcases hD2 x hx with h1 | h1
     ·rcases hR x h1 with h3 | h3
      ·exact (h.lo' x h3).1
      ·omega
     ·have:=hbV2.size;omega
    ·rcases hD2 x hx2 with h1 | h1
     ·exact hRn x hx h1
     ·have:=(hSt x hx).2;have:=hbV2.size;omega
theorem Q1m {q:Nat} {V wr:World} {A B:Option Addr} {n C k cB:Nat} {l:List (List Int)} {is:List Int} (h:ScR q V wr A n C B k cB l is) (hk:k<=100000) (hf:∀z∈is,∃i:Nat,z=i/\i<=100000):NIn .i64 wr B k is:=
 Ql2 h.ints (by unfold maxLen;omega) (λ z hz=>by
  obtain ⟨i,rfl,hi⟩:=hf z hz;simp [Lit.wf,IntKind.min,IntKind.max,IntKind.signed,IntKind.bits]
  omega)
theorem Q20 {q:Nat} {V wr:World} {A B:Option Addr} {n C k cB:Nat} {l:List (List Int)} {is:List Int} (h:ScD q V wr A n C B k cB l is) (hk:k<=100000) (hf:∀z∈is,∃i:Nat,z=i/\i<=100000):NIn .i64 wr B k is:=
 Ql2 h.ints (by unfold maxLen;omega) (λ z hz=>by
  obtain ⟨i,rfl,hi⟩:=hf z hz;simp [Lit.wf,IntKind.min,IntKind.max,IntKind.signed,IntKind.bits]
  omega)
set_option maxHeartbeats 8000000 in
theorem Qon {B:Nat} {W0:World} {O O':Nat->Prop} {p p':Nat} {s:Sh} {zs:List Zn} {W:World} (h:Two2 B W0 O O' p p' s zs W) :
  Calls prog 14 #[.pointer (some ⟨p,0,none⟩),.pointer (some ⟨p',0,none⟩)] W λ e w'=>e=.returned (.bool true)/\Below B W0 w':=by
 obtain ⟨Z,hZ⟩:∃Z:Nat,s.z=Z:=⟨s.z.toNat,by have:=h.w.right.1;omega⟩
 have HZ:Hid (Z<=12/\s.z=(Z:Int)):=⟨by have:=h.sm.1;omega,hZ⟩
 have HPc:Hid (∀V,Below W.heap.size W V->V.cell? ⟨p',0,none⟩=some (.int .i64 (Z:Nat))):=λ V hV=>by
  obtain ⟨g,c,vs,hv⟩:=(h.under hV).r;have:=hv.pcell.1;rw [hZ] at this;exact this
 have HT:Hid (∀V,Below W.heap.size W V->Two2 B W0 O O' p p' s zs V):=λ V hV=>h.under hV
 have HSr:Hid (∀V z,Below W.heap.size W V->Calls prog 44 #[.pointer (some ⟨p,0,none⟩),.int .i64 z] V (Q2e V zs z)):=λ V z hV=>Qqa z (h.under hV).d h.w
 have HSd:Hid (∀V z,Below W.heap.size W V->Calls prog 45 #[.pointer (some ⟨p',0,none⟩),.int .i64 z] V (Quj V zs z)):=λ V z hV=>Qr4 z (h.under hV).r h.w
 have HSl:Hid (∀z:Int,(Qay zs z).length<=16/\∀x∈(Qay zs z).map (λ i=>((i:Nat):Int)),∃i:Nat,x=i/\i<=100000):=λ z=>by
  have h1:=Qj0 h.w h.sm z;refine ⟨by have h2:=Qd0 zs z (atZ zs z).1.length 0;unfold Qay;omega,λ x hx=>?_⟩
  obtain ⟨i,hi,rfl⟩:=List.mem_map.1 hx;have:=(Qgs _ _ _ hi).1;exact ⟨i,rfl,by omega⟩
 clear hZ;have HH:=Jh1 h;clear h;go_enter func14,ntmps14
 go_wp2
 go_loopw [5] (λ x wr=>∃z:Int,x=.int .i64 z/\-1<=z/\z<=Z+1/\Below W.heap.size W wr) (λ x _=>((Z:Int)+1 - intOf x).toNat)
 case atStart=>exact ⟨-1,rfl,by omega,by omega,Below.refl _ _⟩
 case round=>
  obtain ⟨z,rfl,hz1,hz2,hb⟩:=hrel;have pc:=HPc.out wr hb;by_cases hzZ:z<=Z
  ·have hwz:IntKind.i64.wrap (z+1)=z+1:=by rw [IntKind.wrap_i64];have:=HZ.out.1;omega
   have HB:=Jh3 hb hz1 hzZ;have hSr:=HSr.out wr z hb;clear hb hz1 hz2;go_wp2_with (first
    | (go_at_call 44;refine hSr.mono ?_;rintro e w1 ⟨A1,C1,B1,cB1,n1,rfl,sc1⟩;have hb1:=HB.out.1.trans (sc1.bel.mono HB.out.1.size);have hSd:=HSd.out w1 z hb1)
    | (go_at_call 45;refine hSd.mono ?_;rintro e w2 ⟨A2,C2,B2,cB2,n2,rfl,sc2⟩
       have hn1:n1<=100000:=by have h1:=sc1.ln;have h2:=(HSl.out z).1;rw [List.length_map] at h1;omega
       have hn2:n2=n1:=by have h1:=sc1.ln;have h2:=sc2.ln;omega
       subst hn2;have hb2:=hb1.trans (sc2.bel.mono hb1.size);have sm:=Qx8 A1 n2 C1 A2 n2 C2 _ w2 (sc1.rc.below sc2.bel) sc2.rc hn1;have si:=λ V (hV:Below w2.heap.size w2 V)=>Qo0 B1 B2 n2 cB1 cB2 _ V (((Q1m sc1 hn1 (HSl.out z).2).below sc2.bel).below hV) ((Q20 sc2 hn1 (HSl.out z).2).below hV))
    | (go_at_call 46;refine sm.mono ?_;rintro e w3 ⟨rfl,hb3⟩)
    | (go_at_call 47;refine (si _ hb3).mono ?_;rintro e w4 ⟨rfl,hb4⟩))
   have hbW:=hb2.trans ((hb3.trans (hb4.mono hb3.size)).mono hb2.size);exact ⟨⟨z+1,rfl,by have:=(J2 HB);omega,by have:=(Jz2 HB);omega,hbW⟩,by simp [intOf];have:=(Jz2 HB);omega⟩
  ·have hzZ':¬(z<=(Z:Int)):=hzZ
   have hRc:=Qxg (HT.out wr hb);clear hb hz1 hz2;go_wp2_with fail
   refine hRc.mono ?_
   rintro e w1 ⟨er,ps,rfl,her,hps,hDr⟩;have hcv:IntKind.i64.wrap er=er:=by rw [IntKind.wrap_i64];omega
   have hee:(er != er)=false:=by simp
   by_cases h0:er=0
   ·have h0':(er != 0)=false:=by simp [h0]
    clear her hps hRc;go_wp2_with fail
    refine hDr.mono ?_
    rintro e w2 ⟨rs,rfl,hb2,hbo⟩;obtain ⟨a,b,st,rfl,rfl,bo⟩:=hbo h0;have hSm:=Q17 bo (by omega);clear hbo bo hDr;go_wp2_with (go_at_call 49;refine hSm.mono ?_;rintro e w3 ⟨rfl,hb3⟩)
    go_ret
    exact ⟨rfl,hb3.bel⟩
   ·have h0':(er != 0)=true:=by simp [h0]
    have hpn:=hps h0;subst hpn;clear her hps hRc;go_wp2_with fail
    refine hDr.mono ?_
    rintro e w2 ⟨rs,rfl,hb2,_⟩;clear hDr;go_wp2_with fail
    go_ret
    exact ⟨rfl,hb2⟩
end Go.Proofs.YtcdnjeiamihhbaaGreat

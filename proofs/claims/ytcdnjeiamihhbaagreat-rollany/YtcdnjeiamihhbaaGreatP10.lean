/- P10 -/
import Derived.Test.YtcdnjeiamihhbaaGreatP9
set_option linter.unusedVariables false
set_option maxRecDepth 4000
open Go.Proofs.Tryz
namespace Go.Proofs.YtcdnjeiamihhbaaGreat
open Go.RowKit Go.Shelf
def Qb5 (n:Nat):List Zn:=List.replicate n ([],0)
def Q4p (T:TypeId) (W:World) (s:Sh) (e:Ending) (w':World):Prop:=
 Below W.heap.size W w'/\((¬Qat s/\e=.returned (.pointer none))\/(Qat s/\∃p,e=.returned (.pointer (some ⟨p,0,none⟩))/\Dv T (λ x=>W.heap.size<=x) w' p s (Qb5 s.z.toNat)))
theorem Qrr {s:Sh} (h:Qat s):Wf s (Qb5 s.z.toNat):=by
 refine ⟨h,?_,λ z hz=>?_⟩
 ·have:=h.1;simp [Qb5];omega
 ·have:=(List.mem_replicate.1 hz).2
  subst this;have:=h.2.2.1;simp;omega
theorem Qsm (n:Nat):(madeCells (Value.agg #[.slice none 0 0,.int .i64 0]).cells (n*2)).toList=Qbk (List.replicate n (.slice none 0 0)) (Qb5 n):=by
 have hl:(Qbk (List.replicate n (.slice none 0 0)) (Qb5 n)).length=n*2:=by
  rw [Qcl _ _ (by simp [Qb5])];simp [Qb5]
 apply List.ext_getElem?
 intro i;rcases Nat.lt_or_ge i (n*2) with hi | hi
 ·have hk:i / 2<n:=by omega
  obtain ⟨g0,g1⟩:=Qd1 (List.replicate n (.slice none 0 0)) (Qb5 n) (i / 2) (.slice none 0 0) ([],0) (by simp [hk]) (by simp [Qb5,hk]);rcases Nat.mod_two_eq_zero_or_one i with h | h
  ·have e:2*(i / 2)=i:=by omega
   rw [e] at g0;rw [g0];simp [madeCells,hi]
   show (#[Value.slice none 0 0,Value.int IntKind.i64 0])[i % 2]! = _;rw [h];rfl
  ·have e:2*(i / 2)+1=i:=by omega
   rw [e] at g1;rw [g1];simp [madeCells,hi]
   show (#[Value.slice none 0 0,Value.int IntKind.i64 0])[i % 2]! = _;rw [h];rfl
 ·rw [List.getElem?_eq_none (by rw [Array.length_toList,size_madeCells];omega),List.getElem?_eq_none (by omega)]
theorem Q1t {T:TypeId} {W:World} {s:Sh} {n p g:Nat} (hT:T≠91/\T≠71/\T≠5) (O:Nat->Prop) (hn:n<=1000) (hp:Blk W p [.int .i64 s.z,.int .i64 s.zb,.int .i64 s.b,.int .i64 s.r,.slice (some ⟨g,0,none⟩) n n] T) (hg:W.ownsRow 0 91 2 (.slice (some ⟨g,0,none⟩) n n) n (madeCells (Value.agg #[.slice none 0 0,.int .i64 0]).cells (n*2)).toList) (op:O p) (og:O g):Dv T O W p s (Qb5 n):=by
 have hl:(Qb5 n).length=n:=by simp [Qb5]
 rw [Qsm] at hg;refine ⟨g,n,List.replicate n (.slice none 0 0),⟨by rw [hl];exact hp,by rw [hl];exact hg,op,og,by simp [Qb5],λ i u z h1 h2=>?_,λ i j u v r h1 h2 e1 _=>?_,by rw [hl];exact hn,hT⟩⟩
 ·have hu:=(List.mem_replicate.1 (List.mem_of_getElem? h1)).2
  have hz:=(List.mem_replicate.1 (List.mem_of_getElem? h2)).2;subst hu;subst hz;exact RowAt.nil _ _
 ·have hu:=(List.mem_replicate.1 (List.mem_of_getElem? h1)).2
  subst hu;cases e1
set_option maxHeartbeats 4000000 in
theorem Qvr (s:Sh) (W:World) (hz:-9223372036854775808<=s.z):Calls prog 39 #[.agg (shL s).toArray] W (Q4p 98 W s):=by
 obtain ⟨q,hq⟩:∃q,q=W.heap.size:=⟨_,rfl⟩
 have hb:Blk (W.alloc (.cells #[.int .i64 s.z,.int .i64 s.zb,.int .i64 s.b,.int .i64 s.r] 23)) q (shL s) 23:=Blk.new' hq.symm rfl;have hbel:Below q W (W.alloc (.cells #[.int .i64 s.z,.int .i64 s.zb,.int .i64 s.b,.int .i64 s.r] 23)):=(Below.refl _ _).alloc (by omega) _;simp only [shL]
 go_enter func39,ntmps39
 go_upto_region 1 with fail
 rw [<-hq];generalize hW1:World.alloc _ _=W1 at *;clear hW1;have e0:W1.cell? ⟨q,0,none⟩=some (.int .i64 s.z):=hb.cell 0;have e1:W1.cell? ⟨q,1,none⟩=some (.int .i64 s.zb):=hb.cell 1;have e2:W1.cell? ⟨q,2,none⟩=some (.int .i64 s.b):=hb.cell 2;have e3:W1.cell? ⟨q,3,none⟩=some (.int .i64 s.r):=hb.cell 3;have hR:=Qia s W1 hz;simp only [shL] at hR
 have HA:Hid (Blk W1 q (shL s) 23/\Below W.heap.size W W1):=⟨hb,by rw [<-hq];exact hbel⟩
 clear hb hbel hq;by_cases hr:Qat s
 ·have hd:decide (Qat s)=true:=by simp [hr]
  rw [hd] at hR;have HR:=Jh1 @hR;have HS:=Jh1 hr;clear hR hd hr;go_upto_region 3 with (go_at_call 91;refine HR.out.mono ?_;rintro e W2 ⟨rfl,b2⟩)
  have g0:=(b2.cell (Qaa e0)).trans e0;have g1:=(b2.cell (Qaa e1)).trans e1;have g2:=(b2.cell (Qaa e2)).trans e2;have g3:=(b2.cell (Qaa e3)).trans e3;obtain ⟨i0,hi,hz0,hz1,hz2⟩:=info_parts Tryz.zero_zone;obtain ⟨n,hn⟩:∃n:Nat,s.z=n:=⟨s.z.toNat,by have:=HS.out.1;omega⟩
  have hnb:=(J2 HS)
  obtain ⟨w3,r3,o3,gr3⟩:=run_make_full (P:=prog) W2.drew 0 24 91 i0 _ 2 Tryz.underlying24 hi hz0 hz1 .i64 .i64 n (by rw [hz2];omega) (by unfold maxLen;omega) (Nat.zero_le _);have HM:Hid (W2.heap.size=W2.drew.heap.size/\w3.ownsRow 0 91 2 (.slice (some ⟨W2.heap.size,0,none⟩) n n) n (madeCells (Value.agg #[.slice none 0 0,.int .i64 0]).cells (n*2)).toList/\Below W2.heap.size W2 w3/\Below W1.heap.size W1 W2/\s.z=n/\n<=256):=⟨rfl,o3,⟨gr3.os,gr3.tape,gr3.output,gr3.size,λ k hk=>gr3.block k hk (by simp)⟩,b2,hn,by omega⟩
  rw [hn] at g0;have k0:=((J3 HM).cell (Qaa g0)).trans g0;have k1:=((J3 HM).cell (Qaa g1)).trans g1;have k2:=((J3 HM).cell (Qaa g2)).trans g2;have k3:=((J3 HM).cell (Qaa g3)).trans g3;clear e0 e1 e2 e3 o3 gr3 b2 hn hnb hi hz0 hz1 hz2;go_region
  go_wp2
  go_ret
  obtain ⟨_,o3,b3,b2,hn,hn2⟩:=HM.out;have hs1:=HA.out.2.size;have hs2:=b2.size;have hs3:=b3.size;refine ⟨((HA.out.2.trans (b2.mono hs1)).trans (b3.mono (by omega))).alloc (by omega) _,.inr ⟨HS.out,_,rfl,?_⟩⟩
  rw [hn,Int.toNat_natCast];refine Q1t (by decide) _ (by omega) ?_ (o3.alloc _) (by omega) (by omega)
  rw [hn];exact Blk.new' rfl rfl
 ·have hd:decide (Qat s)=false:=by simp [hr]
  rw [hd] at hR;have HR:=Jh1 @hR;have HS:=Jh1 hr;clear hR hd hr;go_wp2_with (go_at_call 91;refine HR.out.mono ?_;rintro e W2 ⟨rfl,b2⟩)
  go_ret
  exact ⟨HA.out.2.trans (b2.mono HA.out.2.size),.inl ⟨HS.out,rfl⟩⟩
theorem Qa7 {T:TypeId} {O:Nat->Prop} {W W':World} {p:Nat} {s:Sh} {zs:List Zn} (h:Dv T O W p s zs) (hb:Below W.heap.size W W'):Dv T O W' p s zs:=by
 obtain ⟨g,c,vs,hv⟩:=h;exact ⟨g,c,vs,hv.under hb⟩
theorem Qzg {zs:List Zn} {i j:Nat} {z:Zn} {D:List Int} (hz:zs[i]?=some z) (hD:z.1[j]?=some D):rdE zs i j=0/\rdB zs i j=D:=by
 have hi:=(List.getElem?_eq_some_iff.1 hz).1;have hj:=(List.getElem?_eq_some_iff.1 hD).1;have h1:Qdy zs i:=⟨by omega,by omega⟩
 have h2:Qcx zs i j:=⟨by omega,by rw [Qc0 hz];omega⟩
 unfold rdE rdB;rw [if_pos h1,if_pos h2,if_pos h1,if_pos h2,Qc0 hz];exact ⟨rfl,by simp [List.getD,hD]⟩
def Held (W:World) (bs:List (List Int)) (e:Ending) (w':World):Prop:=∃v,e=.returned v/\RowAt (λ j=>W.heap.size<=j) w' v bs/\Below W.heap.size W w'
set_option maxHeartbeats 2000000 in
theorem Qxz (i:Nat) {O:Nat->Prop} {W:World} {p:Nat} {s:Sh} {zs:List Zn} (hd:Dv 98 O W p s zs) (hw:Wf s zs) {z:Zn} (hz:zs[i]?=some z) :
  Calls prog 121 #[.pointer (some ⟨p,0,none⟩),.int .i64 i] W (Held W z.1):=by
 obtain ⟨i0,hi0,hz0,hz1,hz2⟩:=info_parts Tryz.zero_bytes;obtain ⟨q,hq⟩:∃q,q=W.heap.size:=⟨_,rfl⟩
 obtain ⟨m,hm⟩:∃m,m=z.1.length:=⟨_,rfl⟩
 have hzl:=(hw.zone z (List.mem_of_getElem? hz)).1;have hzr:=hw.right.2.2.2.1;have hm4:m<=4096:=by omega
 have hAt:=Q2a (i:Int) hd;rw [Qc0 hz,<-hm] at hAt;have HA:=Jh1 @hAt;have H:=Jh9 hd hw hz hq hm hi0 hz0 hz1 hz2;clear hd hw hz hm hi0 hz0 hz1 hz2 hzl hzr hAt;go_enter func121,ntmps121
 go_upto_region 3 with (first
  | (go_at_call 129;refine HA.out.mono ?_;rintro e W1 ⟨rfl,b1⟩)
  | (at_make;refine wpList_make_own W1 rfl _ (.tmp 17) 74 rfl q 71 i0 (.slice none 0 0) 1 Tryz.underlying74 (J6 H) (J7 H) (J8 H) .i64 .i64 _ m rfl rfl (by omega) (by rw [(Jz8 H)];omega) (by unfold maxLen;omega) (by rw [(J4 H)];exact b1.size) ?_;intro W2 ow2 gr2))
 have H2:Hid (RowAt (λ j=>q<=j) W2 (.slice (some ⟨W1.heap.size,0,none⟩) 0 m) (z.1.take 0)/\Below q W W2):=by
  refine ⟨⟨[],by simpa using Qbh ow2,λ r e=>(ow2.lt r e).1,BsAt.nil _ _,by simp⟩,?_⟩
  have b2:Below W1.heap.size W1 W2:=(Below.refl _ _).grown gr2 (Nat.le_refl _) (λ g hg=>by cases hg);have hs:=b1.size;rw [(J4 H)];exact b1.trans (b2.mono hs)
 clear b1 ow2 gr2 hq;go_wp2
 go_loopw [7,20] (λ v x wr=>∃(j:Nat) (av:Option Addr) (nv cv:Nat),j<=m/\x=.int .i64 j/\v=.slice av nv cv/\RowAt (λ k=>q<=k) wr (.slice av nv cv) (z.1.take j)/\Below q W wr) (λ _ x _=>m - (intOf x).toNat)
 case atStart=>exact ⟨0,_,_,_,Nat.zero_le _,rfl,rfl,H2.out.1,H2.out.2⟩
 case round=>
  obtain ⟨j,av,nv,cv,hj,rfl,rfl,row,bl⟩:=hrel;have hbl:Below W.heap.size W wr:=by rw [<-(J4 H)];exact bl
  rcases Nat.lt_or_ge j m with hlt | hge
  ·obtain ⟨D,hD⟩:∃D,z.1[j]?=some D:=⟨z.1[j]'(by have:=(J5 H);omega),by simp⟩
   obtain ⟨hrE,hrB⟩:=Qzg (J3 H) hD;have hR:=Qg6 (i:Int) (j:Int) (Qa7 H.out.1 hbl) (J2 H);have hj':(j:Int)<m:=by omega
   have hwj:IntKind.i64.wrap ((j:Int)+1)=(j:Int)+1:=by rw [IntKind.wrap_i64];omega
   have htl:(z.1.take j).length=j:=by rw [List.length_take];have:=(J5 H);omega
   have HR:Hid (Calls prog 90 #[.pointer (some ⟨p,0,none⟩),.agg #[.int .i64 (i:Int),.int .i64 (j:Int)]] wr λ e X=>∃ax nx cx,e=.returned (.tuple #[.slice ax nx cx,.int .u16 0])/\∃a9 c9 w9,(Builtin.append_ #[74,74] 74 #[.slice av nv cv,.slice (some ⟨X.heap.size,0,none⟩) 1 1]).run prog (X.alloc (.cells #[.slice ax nx cx] 71))=.ok (.slice a9 (j+1) c9) w9/\RowAt (λ k=>q<=k) w9 (.slice a9 (j+1) c9) (z.1.take (j+1))/\Below q W w9):=by
    refine hR.mono ?_
    rintro e X ⟨h,rfl,hbk,hb⟩;rw [hrE];rw [hrB] at hbk;obtain ⟨ax,cx,rfl⟩:=Qam hbk.1;have hqw:q<=wr.heap.size:=by rw [(J4 H)];exact hbl.size
    have row':=row.out (Qab Non hb) (λ _ _=>id) (λ _ _ _ _=>id);obtain ⟨a9,c9,w9,e9,r9,g9,_⟩:=Qep row' (hbk.mono (O':=λ k=>q<=k) (λ c hc _=>Nat.le_trans hqw hc)) rfl (by rw [htl];omega) (λ k hk=>Nat.le_trans hqw (Nat.le_trans hb.size hk));rw [htl] at e9 r9;have bX:=bl.trans (hb.mono hqw);refine ⟨ax,_,cx,rfl,a9,c9,w9,e9,by rw [Qao hD];exact r9,?_⟩
    obtain ⟨vs,r1,r2,_⟩:=row';exact (bX.alloc (by have:=hb.size;omega) _).grown g9 (by simp;have:=hb.size;omega) (λ k hk=>r2 k hk)
   clear row bl hbl hR hrE hrB hD htl;go_wp2_with (first
    | (go_at_call 90;refine HR.out.mono ?_;rintro e X ⟨ax,nx,cx,rfl,a9,c9,w9,e9,r9,b9⟩)
    | (at_builtin;refine Qag rfl (.tmp 31) (.tmp 33) 74 74 rfl _ _ rfl rfl _ _ e9 ?_))
   have H9:=Jh2 r9 b9;clear e9 r9 b9;go_roundw
   case rel=>exact ⟨j+1,a9,j+1,c9,by omega,by simp,by simp,H9.out.1,H9.out.2⟩
   case measure=>simp [intOf];omega
  ·obtain rfl:j=m:=by omega
   have htk:z.1.take j=z.1:=List.take_of_length_le (by rw [(J5 H)];exact Nat.le_refl _);rw [htk] at row;have HF:Hid (RowAt (λ k=>W.heap.size<=k) wr (.slice av nv cv) z.1/\Below W.heap.size W wr):=⟨by rw [<-(J4 H)];exact row,hbl⟩
   clear row bl hbl htk;go_wp2
   go_ret
   exact ⟨_,rfl,HF.out.1,HF.out.2⟩
section
def LsIn (W:World) (a:Option Addr) (n:Nat) (ls:List (Int × Int)):Prop:=
 ls.length=n/\n<=maxLen/\(∀k∈ls,k.1<9223372036854775808)/\(n=0\/∃b off,a=some ⟨b,off,none⟩/\∀(i:Nat) (k:Int × Int),ls[i]?=some k->W.cell? ⟨b,off+i*2,none⟩=some (.int .i64 k.1)/\W.cell? ⟨b,off+i*2+1,none⟩=some (.int .i64 k.2))
theorem LsIn.out {W W':World} {a:Option Addr} {n:Nat} {ls:List (Int × Int)} {S:Nat->Prop} (h:LsIn W a n ls) (ho:Out S W W') (hS:n≠0->∀ad,a=some ad->¬S ad.block):LsIn W' a n ls:=by
 obtain ⟨h1,h2,h3,h4⟩:=h;refine ⟨h1,h2,h3,?_⟩
 by_cases hn0:n=0
 ·exact .inl hn0
 rcases h4 with h4 | ⟨b,off,ha,hc⟩
 ·exact .inl h4
 ·have hS:=hS hn0
  exact .inr ⟨b,off,ha,λ i k hi=>⟨ho.cell (hc i k hi).1 (hS ⟨b,off,none⟩ ha),ho.cell (hc i k hi).2 (hS ⟨b,off,none⟩ ha)⟩⟩
def Qcy (ls:List (Int × Int)) (i:Nat):Int × Int:=ls.getD i (0,0)
def cr1 (k:Int × Int) (z:Zn):Zn:=(Qck z.1 z.2.toNat k.1 k.2,((Qck z.1 z.2.toNat k.1 k.2).length:Nat))
def Qgq (ls:List (Int × Int)) (zs:List Zn):List Zn:=zs.mapIdx (λ i z=>cr1 (Qcy ls i) z)
section
variable {O:Nat->Prop} {W:World} {p:Nat} {s:Sh} {zs:List Zn}
structure CrM (T:TypeId) (O:Nat->Prop) (V:World) (p:Nat) (s:Sh) (zs:List Zn) (g cz i:Nat) (z:Zn) (ua:Option Addr) (uc:Nat) (ub:Option Addr) (ud:Nat) (B:List (List Int)) (w':World):Prop where
 dev:∃vs',DvV T O ((w'.setCell ⟨g,i*2,none⟩ (.slice ub B.length ud)).setCell ⟨g,i*2+1,none⟩ (.int .i64 (B.length:Nat))) p s (zs.set i (B,(B.length:Nat))) g cz vs'
 c0:w'.cell? ⟨g,i*2,none⟩=some (.slice ua z.1.length uc)
 c1:w'.cell? ⟨g,i*2+1,none⟩=some (.int .i64 z.2)
 f0:w'.frozen? ⟨g,i*2,none⟩=false
 f1:w'.frozen? ⟨g,i*2+1,none⟩=false
 out:Out (λ x=>O x) V ((w'.setCell ⟨g,i*2,none⟩ (.slice ub B.length ud)).setCell ⟨g,i*2+1,none⟩ (.int .i64 (B.length:Nat)))
 blk:∀{q:Nat} {L:List Value} {t:TypeId},Blk V q L t->t≠71->Blk w' q L t
theorem Q3o {T:TypeId} {V w':World} {g cz:Nat} {vs:List Value} {i:Nat} {z:Zn} {ua:Option Addr} {uc:Nat} {ub:Option Addr} {ud:Nat} {B:List (List Int)} (hO:∀x,V.heap.size<=x->O x) (hv:DvV T O V p s zs g cz vs) (hz:zs[i]?=some z) (hu:vs[i]?=some (.slice ua z.1.length uc))
  (hr:RowAt (λ x=>O x\/V.heap.size<=x) w' (.slice ub B.length ud) B) (ho:Out (Qji ua) V w') (hf:ub=ua\/∀r,(Value.slice ub B.length ud).ownBlock=some r->V.heap.size<=r):CrM T O V p s zs g cz i z ua uc ub ud B w':=by
 have hr':=hr.mono (O':=O) (λ x hx _=>by rcases hx with h | h;exact h;exact hO x h);have ho':Out (λ x=>(Value.slice ua z.1.length uc).ownBlock=some x) V w':=ho.mono (λ x hx _=>by obtain ⟨ad,rfl,rfl⟩:=hx;rfl);have hi:=(List.getElem?_eq_some_iff.1 hz).1;obtain ⟨uv,u1,u2,_⟩:=hv.rows i _ z hu hz;obtain ⟨k1,k2,k3,hd⟩:=hv.upd (O1:=O) hz hu ho' (λ _ h=>h) hr' (by
  rcases hf with rfl | hf
  ·exact .inl (by cases ub <;> rfl)
  ·exact .inr hf)
 have hd2:=hd.setD (i:=i) (z:=(B,z.2)) (by simp [hi]) (B.length:Nat);rw [List.set_set] at hd2;refine ⟨⟨_,hd2⟩,k1,k2,k3 _,k3 _,?_,λ hq ht=>ho'.blk hq (Qcd hq ht u1)⟩
 exact ((ho'.mono (λ x hx _=>u2 x hx)).setCell (p:=⟨g,i*2,none⟩) (.inl hv.og) _).setCell (p:=⟨g,i*2+1,none⟩) (.inl hv.og) _
theorem Qs6 (bs:List (List Int)) (d:Nat) (k t:Int):(Qck bs d k t).length<=bs.length:=by
 unfold Qck Qi2;simp only [List.length_append,List.length_take,List.length_drop]
 split
 ·rename_i D hD
  have:=(List.getElem?_eq_some_iff.1 hD).1;simp at this
  split <;> simp <;> omega
 ·simp;omega
set_option maxHeartbeats 4000000 in
theorem Qxq (a:Option Addr) (n c:Nat) (ls:List (Int × Int)) (hd:Dv 98 O W p s zs) (hw:Wf s zs) (hl:LsIn W a n ls) (ha:n≠0->∀ad,a=some ad->¬O ad.block) :
  Calls prog 18 #[.pointer (some ⟨p,0,none⟩),.slice a n c] W λ e w'=>(∃v,e=.returned v)/\Step 98 O W p s (Qgq ls zs) w':=by
 obtain ⟨g,cz,vs,hv⟩:=hd;have c4:=hv.pcell.2.2.2.2;have hsm:=hv.small;have hla:∀ad,a=some ad->n≠0->ad.block<W.heap.size:=by
  intro ad e hn;obtain ⟨b,off,e',hc⟩:=hl.2.2.2.resolve_left hn;rw [e] at e';cases e';have:=(hc 0 (ls[0]'(by have:=hl.1;omega)) (by simp)).1;exact Qaa this
 have HV:=Jh5 hv hw hl ha hla;clear hv hw hl ha hla;generalize hN:zs.length=N at *;go_enter func18,ntmps18
 go_wp2
 go_loopw [11] (λ x wr=>∃i:Nat,x=.int .i64 i/\i<=N/\(∃vs',DvV 98 (λ x=>O x\/W.heap.size<=x) wr p s (upTo (λ i z=>cr1 (Qcy ls i) z) zs i) g cz vs')/\Out O W wr) (λ x wr=>N - (intOf x).toNat)
 case atStart=>exact ⟨0,rfl,Nat.zero_le _,⟨vs,by rw [Qgv];exact HV.out.1.mono (λ x h _=>.inl h)⟩,Out.refl _ _⟩
 case round=>
  obtain ⟨i,rfl,hi,⟨vs',hv⟩,ho⟩:=hrel;have c4':=hv.pcell.2.2.2.2;rw [Qa5,hN] at c4';rcases Nat.lt_or_ge i N with hlt | hge
  ·obtain ⟨z,hz⟩:∃z,zs[i]?=some z:=⟨zs[i]'(by omega),by simp⟩
   have hz':=(Qcs (λ i z=>cr1 (Qcy ls i) z) zs i).trans hz;obtain ⟨ua,uc,hu,hr,z0,z1⟩:=hv.at hz';have hi':(i:Int)<(N:Int):=by omega
   have hw1:IntKind.i64.wrap ((i:Int)+1)=(i:Int)+1:=by rw [IntKind.wrap_i64];omega
   obtain ⟨k,hk⟩:∃k,k=Qcy ls i:=⟨_,rfl⟩
   obtain ⟨q,hq⟩:∃q,q=wr.heap.size:=⟨_,rfl⟩
   have hzz:=(J2 HV).zone z (List.mem_of_getElem? hz);obtain ⟨dn,hdn⟩:∃dn:Nat,z.2=dn:=⟨z.2.toNat,by omega⟩
   have hpb:=Qbd (J2 HV).right.2.2.2.2.1;have hkb:k.1<9223372036854775808:=by
    rw [hk,Qcy,List.getD];cases e:ls[i]? with
    | none=>show (0:Int)<_;omega
    | some y=>exact (J3 HV).2.2.1 y (List.mem_of_getElem? e)
   have HC:Hid (∀V,Below wr.heap.size wr V->Calls prog 55 #[.agg #[.slice ua z.1.length uc,.int .i64 z.2],.agg #[.int .i64 k.1,.int .i64 k.2]] V (Qwt V (λ x=>O x\/W.heap.size<=x) ua uc z.1 dn k.1 k.2)):=by
    intro V hV;rw [hdn];exact Qsv _ ua z.1.length uc dn k.1 k.2 z.1 V ((hv.under hV).rows i _ z hu hz') ((J2 HV).short z (List.mem_of_getElem? hz)) (λ D hD=>by have:=hzz.2.2.2 D hD;omega) (by omega) hkb
   obtain ⟨B,hB⟩:∃B,B=Qck z.1 dn k.1 k.2:=⟨_,rfl⟩
   have HM:Hid (∀V w',Below wr.heap.size wr V->RowAt (λ x=>(O x\/W.heap.size<=x)\/V.heap.size<=x) w' (.slice ua B.length uc) B->Out (Qji ua) V w'->CrM 98 (λ x=>O x\/W.heap.size<=x) V p s (upTo (λ i z=>cr1 (Qcy ls i) z) zs i) g cz i z ua uc ua uc B w'):=
    λ V w' hV h1 h2=>Q3o (λ x hx=>.inr (by have:=ho.size;have:=hV.size;omega)) (hv.under hV) hz' hu h1 h2 (.inl rfl)
   have HS:=Jh7 ho hz hk hdn hq hv hB;have hls:=(J3 HV).out ho (J4 HV);have HU:=Jh1 hu;clear hkb hpb hzz hz' hr hu;by_cases hin:i<n
   ·have hin':(i:Int)<n:=by omega
    obtain ⟨b,off,rfl,hc⟩:=hls.2.2.2.resolve_left (by omega);obtain ⟨y0,y1⟩:=hc i k (by rw [hk,Qcy,List.getD];have:i<ls.length:=(by rw [hls.1];exact hin);simp [this]);have w0:∀o,(wr.alloc o).cell? ⟨b,off+i*2,none⟩=some (.int .i64 k.1):=λ o=>(((Below.refl wr.heap.size wr).alloc (Nat.le_refl _) o).cell (Qaa y0)).trans y0
    have w1:∀o,(wr.alloc o).cell? ⟨b,off+i*2+1,none⟩=some (.int .i64 k.2):=λ o=>(((Below.refl wr.heap.size wr).alloc (Nat.le_refl _) o).cell (Qaa y1)).trans y1
    have HX:Hid (Blk (wr.alloc (.cells #[.int .i64 k.1,.int .i64 k.2] 121)) q [.int .i64 k.1,.int .i64 k.2] 121/\Below wr.heap.size wr (wr.alloc (.cells #[.int .i64 k.1,.int .i64 k.2] 121))):=⟨Blk.new' hq.symm rfl,(Below.refl _ _).alloc (Nat.le_refl _) _⟩
    clear hls hc hz hdn hk hv ho c4 z0 z1 c4' y0 y1 hB;go_upto_region 6 with fail
    rw [<-hq];generalize hVV:World.alloc _ _=V at HX ⊢;clear hVV w0 w1 hq;have lb:=HX.out.1;have hvV:=(J6 HS).under HX.out.2;have c4V:=hvV.pcell.2.2.2.2;rw [Qa5,hN] at c4V;obtain ⟨ua',uc',hu',_,z0V,z1V⟩:=hvV.at ((Qcs (λ i z=>cr1 (Qcy ls i) z) zs i).trans (J2 HS));have hue:ua'=ua/\uc'=uc:=by rw [HU.out] at hu';cases hu';exact ⟨rfl,rfl⟩
    obtain ⟨rfl,rfl⟩:=hue;have l0:V.cell? ⟨q,0,none⟩=some (.int .i64 k.1):=lb.cell 0;have l1:V.cell? ⟨q,1,none⟩=some (.int .i64 k.2):=lb.cell 1;obtain ⟨Lg,hLg⟩:=Qdv hvV.hg;have hpg:p≠g:=Qbq hvV.hp hLg (by decide);have hqg:q≠g:=Qbq lb hLg (by decide);have HP:Hid (Blk V p [.int .i64 s.z,.int .i64 s.zb,.int .i64 s.b,.int .i64 s.r,.slice (some ⟨g,0,none⟩) N cz] 98):=by
     have:=hvV.hp;rw [Qa5,hN] at this;exact this
    have HL:=Jh1 lb;have HE:=Jh1 (Jz6 HS);clear hvV hu' lb hLg;refine wp_region_noPanic ?_
    go_region_law (go_simp;go_at_call 55;refine (HC.out _ (by exact HX.out.2.drew)).mono ?_;rintro e w3 ⟨rfl,r3,o3⟩;rw [<-HE.out] at r3;have M:=HM.out _ w3 (by exact HX.out.2.drew) r3 o3;have m4:w3.cell? ⟨p,4,none⟩=some (.slice (some ⟨g,0,none⟩) N cz):=(M.blk HP.out (by decide)).cell 4;have m0:w3.cell? ⟨q,0,none⟩=some (.int .i64 k.1):=(M.blk HL.out (by decide)).cell 0;have m1:w3.cell? ⟨q,1,none⟩=some (.int .i64 k.2):=(M.blk HL.out (by decide)).cell 1;have m5:=M.c0;have m6:=M.c1;have m7:=M.f0;have m8:=M.f1;rw [<-HE.out])
    all_goals
     refine NoPanic.normal ?_
     have HF:Hid ((∃vs',DvV 98 (λ x=>O x\/W.heap.size<=x) ((w3.setCell ⟨g,i*2,none⟩ (.slice ua' B.length uc')).setCell ⟨g,i*2+1,none⟩ (.int .i64 (B.length:Nat))) p s (upTo (λ i z=>cr1 (Qcy ls i) z) zs (i+1)) g cz vs')/\Out O W ((w3.setCell ⟨g,i*2,none⟩ (.slice ua' B.length uc')).setCell ⟨g,i*2+1,none⟩ (.int .i64 (B.length:Nat)))):=by
      refine ⟨?_,?_⟩
      ·obtain ⟨vs2,hv2⟩:=M.dev
       refine ⟨vs2,?_⟩
       rw [<-Qem _ _ (J2 HS)];have e:cr1 (Qcy ls i) z=(B,((B.length:Nat):Int)):=by
        rw [<-(J3 HS),cr1,(J4 HS),Int.toNat_natCast,<-HE.out]
       rw [e];exact hv2
      ·have h1:=HS.out.1.under HX.out.2
       exact h1.drew.trans M.out (λ x hx=>hx)
     clear M m0 m1 m4 m5 m6 m7 m8 r3 o3 z0V z1V c4V l0 l1;generalize World.setCell _ _ _=V9 at HF ⊢;go_wp2
     go_roundw
     case rel=>exact ⟨i+1,by simp,by omega,HF.out.1,HF.out.2⟩
     case measure=>simp [intOf];omega
   ·have hin':(n:Int)<=i:=by omega
    have hk0:k=(0,0):=by rw [hk,Qcy,List.getD,List.getElem?_eq_none (by have:=hls.1;omega)];rfl
    have HX:Hid (Blk (wr.alloc (.cells #[.int .i64 0,.int .i64 0] 121)) q [.int .i64 k.1,.int .i64 k.2] 121/\Below wr.heap.size wr (wr.alloc (.cells #[.int .i64 0,.int .i64 0] 121))):=by
     refine ⟨by rw [hk0];exact Blk.new' hq.symm rfl,(Below.refl _ _).alloc (Nat.le_refl _) _⟩
    clear hls hz hdn hk hv ho c4 z0 z1 c4' hB hk0;go_upto_region 6 with fail
    rw [<-hq];generalize hVV:World.alloc _ _=V at HX ⊢;clear hVV hq;have lb:=HX.out.1;have hvV:=(J6 HS).under HX.out.2;have c4V:=hvV.pcell.2.2.2.2;rw [Qa5,hN] at c4V;obtain ⟨ua',uc',hu',_,z0V,z1V⟩:=hvV.at ((Qcs (λ i z=>cr1 (Qcy ls i) z) zs i).trans (J2 HS));have hue:ua'=ua/\uc'=uc:=by rw [HU.out] at hu';cases hu';exact ⟨rfl,rfl⟩
    obtain ⟨rfl,rfl⟩:=hue;have l0:V.cell? ⟨q,0,none⟩=some (.int .i64 k.1):=lb.cell 0;have l1:V.cell? ⟨q,1,none⟩=some (.int .i64 k.2):=lb.cell 1;obtain ⟨Lg,hLg⟩:=Qdv hvV.hg;have hpg:p≠g:=Qbq hvV.hp hLg (by decide);have hqg:q≠g:=Qbq lb hLg (by decide);have HP:Hid (Blk V p [.int .i64 s.z,.int .i64 s.zb,.int .i64 s.b,.int .i64 s.r,.slice (some ⟨g,0,none⟩) N cz] 98):=by
     have:=hvV.hp;rw [Qa5,hN] at this;exact this
    have HL:=Jh1 lb;have HE:=Jh1 (Jz6 HS);clear hvV hu' lb hLg;refine wp_region_noPanic ?_
    go_region_law (go_simp;go_at_call 55;refine (HC.out _ (by exact HX.out.2.drew)).mono ?_;rintro e w3 ⟨rfl,r3,o3⟩;rw [<-HE.out] at r3;have M:=HM.out _ w3 (by exact HX.out.2.drew) r3 o3;have m4:w3.cell? ⟨p,4,none⟩=some (.slice (some ⟨g,0,none⟩) N cz):=(M.blk HP.out (by decide)).cell 4;have m0:w3.cell? ⟨q,0,none⟩=some (.int .i64 k.1):=(M.blk HL.out (by decide)).cell 0;have m1:w3.cell? ⟨q,1,none⟩=some (.int .i64 k.2):=(M.blk HL.out (by decide)).cell 1;have m5:=M.c0;have m6:=M.c1;have m7:=M.f0;have m8:=M.f1;rw [<-HE.out])
    all_goals
     refine NoPanic.normal ?_
     have HF:Hid ((∃vs',DvV 98 (λ x=>O x\/W.heap.size<=x) ((w3.setCell ⟨g,i*2,none⟩ (.slice ua' B.length uc')).setCell ⟨g,i*2+1,none⟩ (.int .i64 (B.length:Nat))) p s (upTo (λ i z=>cr1 (Qcy ls i) z) zs (i+1)) g cz vs')/\Out O W ((w3.setCell ⟨g,i*2,none⟩ (.slice ua' B.length uc')).setCell ⟨g,i*2+1,none⟩ (.int .i64 (B.length:Nat)))):=by
      refine ⟨?_,?_⟩
      ·obtain ⟨vs2,hv2⟩:=M.dev
       refine ⟨vs2,?_⟩
       rw [<-Qem _ _ (J2 HS)];have e:cr1 (Qcy ls i) z=(B,((B.length:Nat):Int)):=by
        rw [<-(J3 HS),cr1,(J4 HS),Int.toNat_natCast,<-HE.out]
       rw [e];exact hv2
      ·have h1:=HS.out.1.under HX.out.2
       exact h1.drew.trans M.out (λ x hx=>hx)
     clear M m0 m1 m4 m5 m6 m7 m8 r3 o3 z0V z1V c4V l0 l1;generalize World.setCell _ _ _=V9 at HF ⊢;go_wp2
     go_roundw
     case rel=>exact ⟨i+1,by simp,by omega,HF.out.1,HF.out.2⟩
     case measure=>simp [intOf];omega
  ·obtain rfl:i=N:=by omega
   have HS:=Jh2 hv ho;clear hv ho c4 c4';go_wp2
   go_end0
   refine ⟨⟨_,rfl⟩,⟨g,cz,vs',?_⟩,HS.out.2⟩
   have:=HS.out.1;rw [Qid _ _ (by omega)] at this;exact this.mono (λ x hx hlt=>by
    rcases hx with h | h
    ·exact .inl h
    ·exact .inr ⟨h,hlt⟩)
end
end
theorem Wf.set {s:Sh} {zs:List Zn} (h:Wf s zs) (i:Nat) (z:Zn) (hz:(z.1.length:Int)<=s.zb/\0<=z.2/\z.2<=z.1.length/\∀D∈z.1,(D.length:Int)=s.b):Wf s (zs.set i z):=by
 refine ⟨h.right,by rw [List.length_set];exact h.len,λ y hy=>?_⟩
 rcases List.mem_or_eq_of_mem_set hy with h1 | h1
 ·exact h.zone y h1
 ·rw [h1];exact hz
theorem Q2d {zs:List Zn} {zn:Int} (h:0<=zn) (h':zn<=(zs.length:Int) - 1):atZ zs zn∈zs:=by
 unfold atZ;rw [if_pos h];have:zn.toNat<zs.length:=by omega
 simp [List.getD,this]
theorem Wf.app {s:Sh} {zs:List Zn} (h:Wf s zs) (zn:Int) (D:List Int):Wf s (appZ s zs zn D):=by
 unfold appZ;split
 ·rename_i ho
  split
  ·exact h
  ·rename_i hf
   refine h.set _ _ ?_
   have hz:=h.zone _ (Q2d ho.1 ho.2.1);unfold Qbc at hf;refine ⟨by simp;omega,hz.2.1,by simp;omega,λ E hE=>?_⟩
   rcases List.mem_append.1 hE with h1 | h1
   ·exact hz.2.2.2 E h1
   ·rw [List.mem_singleton.1 h1];exact ho.2.2
 ·exact h
theorem Wf.map {s:Sh} {zs:List Zn} (h:Wf s zs) (f:Nat->Zn->Zn) (hf:∀i z,z∈zs->((f i z).1.length:Int)<=s.zb/\0<=(f i z).2/\(f i z).2<=(f i z).1.length/\∀D∈(f i z).1,(D.length:Int)=s.b):Wf s (zs.mapIdx f):=by
 refine ⟨h.right,by simp;exact h.len,λ y hy=>?_⟩
 obtain ⟨i,hi,rfl⟩:=List.mem_mapIdx.1 hy;exact hf i _ (List.getElem_mem hi)
theorem Wf.flush {s:Sh} {zs:List Zn} (h:Wf s zs):Wf s (Qjw zs):=
 h.map _ (λ i z hz=>by have:=h.zone z hz;exact ⟨this.1,by simp [fl],by simp [fl],this.2.2.2⟩)
theorem Qn9 {us:List (List Int)} {k t:Int} {n:Int} (h:∀D∈us,(D.length:Int)=n):∀D∈Qi2 us k t,(D.length:Int)=n:=by
 intro D hD;unfold Qi2 at hD;rcases List.mem_append.1 hD with h1 | h1
 ·exact h D (List.mem_of_mem_take h1)
 ·split at h1
  ·rename_i E hE
   split at h1
   ·rw [List.mem_singleton.1 h1,Qhx (by omega)]
    exact h E (List.mem_of_getElem? hE)
   ·simp at h1
  ·simp at h1
theorem Qk7 {bs:List (List Int)} {d:Nat} {k t:Int} {n:Int} (h:∀D∈bs,(D.length:Int)=n):∀D∈Qck bs d k t,(D.length:Int)=n:=by
 intro D hD;rcases List.mem_append.1 hD with h1 | h1
 ·exact h D (List.mem_of_mem_take h1)
 ·exact Qn9 (λ E hE=>h E (List.mem_of_mem_drop hE)) D h1
theorem Wf.crash {s:Sh} {zs:List Zn} (h:Wf s zs) (ls:List (Int × Int)):Wf s (Qgq ls zs):=
 h.map _ (λ i z hz=>by
  have hh:=h.zone z hz;have:=Qs6 z.1 z.2.toNat (Qcy ls i).1 (Qcy ls i).2;exact ⟨by simp only [cr1];omega,by simp only [cr1];omega,by simp only [cr1];omega,Qk7 hh.2.2.2⟩)
section
def SvSt (T:TypeId) (O:Nat->Prop) (W:World) (p:Nat) (s:Sh) (zs:List Zn) (wr:World):Prop:=∃O',Dv T O' wr p s zs/\(∀x,O' x->O x\/W.heap.size<=x)/\Out O W wr
section
variable {T:TypeId} {O:Nat->Prop} {W wr w':World} {p:Nat} {s:Sh} {zs zs':List Zn}
theorem SvSt.start (h:Dv T O W p s zs):SvSt T O W p s zs W:=⟨O,h,λ _ h=>.inl h,Out.refl _ _⟩
theorem SvSt.under (h:SvSt T O W p s zs wr) (hb:Below wr.heap.size wr w'):SvSt T O W p s zs w':=by
 obtain ⟨O',hd,hO,ho⟩:=h;exact ⟨O',Qa7 hd hb,hO,ho.under hb⟩
theorem SvSt.step {O':Nat->Prop} (hO:∀x,O' x->O x\/W.heap.size<=x) (ho:Out O W wr) (hs:Step T O' wr p s zs' w'):SvSt T O W p s zs' w':=by
 obtain ⟨hd,h2⟩:=hs;refine ⟨_,hd,λ x hx=>?_,ho.trans h2 hO⟩
 rcases hx with hx | hx
 ·exact hO x hx
 ·have:=ho.size;exact .inr (by omega)
theorem SvSt.of {O1:Nat->Prop} {W1:World} (hO:∀x,O1 x->O x) (hb:Below W.heap.size W W1) (h:SvSt T O1 W1 p s zs wr):SvSt T O W p s zs wr:=by
 obtain ⟨O',hd,h1,h2⟩:=h;refine ⟨O',hd,λ x hx=>?_,(Qab O hb).trans h2 (λ j e=>.inl (hO j e))⟩
 rcases h1 x hx with h | h
 ·exact .inl (hO x h)
 ·have:=hb.size;exact .inr (by omega)
end
theorem Dv.there {T:TypeId} {O:Nat->Prop} {W:World} {p:Nat} {s:Sh} {zs:List Zn} (h:Dv T O W p s zs):Dv T (λ x=>O x/\x<W.heap.size) W p s zs:=by
 obtain ⟨g,c,vs,hv⟩:=h;exact ⟨g,c,vs,hv.mono (λ x h1 h2=>⟨h1,h2⟩)⟩
def putZ (zs:List Zn) (i:Nat) (ls:List (List Int)):List Zn:=Qjw (zs.set i (ls,0))
open Classical in
noncomputable def svE (s:Sh) (slot:Int) (ps:List Pl):Int:=if 0<=slot/\slot<2 then ckE s ps else 1
open Classical in
noncomputable def svZ (s:Sh) (zs:List Zn) (slot:Int) (seq:Int) (ps:List Pl):List Zn:=if svE s slot ps=0 then putZ zs slot.toNat (ckL s seq ps) else zs
def Q0e (T:TypeId) (k:IntKind) (O:Nat->Prop) (W:World) (p:Nat) (s:Sh) (zs:List Zn) (slot seq:Int) (ps:List Pl) (e:Ending) (w':World):Prop:=
 e=.returned (.int k (svE s slot ps))/\SvSt T O W p s (svZ s zs slot seq ps) w'
theorem Qr1 {s:Sh} {zs:List Zn} {i k:Nat} {ls:List (List Int)} {D:List Int} (hi:i<zs.length) (hD:ls[k]?=some D) (hl:(D.length:Int)=s.b) (hz:(ls.length:Int)<=s.zb) :
  appZ s (zs.set i (ls.take k,0)) i D=zs.set i (ls.take (k+1),0):=by
 have hk:=(List.getElem?_eq_some_iff.1 hD).1;have hat:atZ (zs.set i (ls.take k,0)) i=(ls.take k,0):=Qc0 (by simp [hi]);have hok:Qdn s (zs.set i (ls.take k,0)) i D:=⟨by omega,by simp;omega,hl⟩
 have hfull:¬Qbc s (zs.set i (ls.take k,0)) i:=by
  unfold Qbc;rw [hat];simp only [List.length_take]
  omega
 unfold appZ;rw [if_pos hok,if_neg hfull,hat,Int.toNat_natCast,List.set_set,Qao hD]
theorem Qlk {s:Sh} {seq:Int} {ps:List Pl} (h:ckE s ps=0):∀D∈ckL s seq ps,(D.length:Int)=s.b:=by
 obtain ⟨hg,hm⟩:=Qb2.1 h;have hr:=Qcv hg.1;have hp:=Qar (show s.b∈PowR from hg.1.2.2.2.2.1);intro D hD;obtain ⟨i,hi,rfl⟩:=Qwg hD;have:=Qby (Qbl s) i ps;rw [Qd3 (by omega)];omega
theorem Qvc {s:Sh} {zs:List Zn} (h:Wf s zs) (i k:Nat) {ls:List (List Int)} (hl:∀D∈ls,(D.length:Int)=s.b) (hz:(ls.length:Int)<=s.zb):Wf s (zs.set i (ls.take k,0)):=
 h.set i _ ⟨by simp only [List.length_take];omega,by omega,by omega,λ D hD=>hl D (List.mem_of_mem_take hD)⟩
set_option maxHeartbeats 4000000 in
theorem Qq0 (slot seq:Int) (A:Option Addr) (n C:Nat) (ps:List Pl) {O:Nat->Prop} {W:World} {p:Nat} {s:Sh} {zs:List Zn} (hd:Dv 98 O W p s zs) (hw:Wf s zs) (hs:Qai seq) (hk:KIn W A n ps) (hnC:n<=C) :
  Calls prog 67 #[.pointer (some ⟨p,0,none⟩),.int .i64 slot,.agg #[.int .u64 seq,.slice A n C]] W (Q0e 98 .u16 O W p s zs slot seq ps):=by
 obtain ⟨q,hq⟩:∃q,q=W.heap.size:=⟨_,rfl⟩
 have H:=Jh6 hd hw hs hk hnC hq;have HW:Hid (Blk (W.alloc (.cells #[.int .u64 seq,.slice A n C] 82)) q [.int .u64 seq,.slice A n C] 82/\Below W.heap.size W (W.alloc (.cells #[.int .u64 seq,.slice A n C] 82))):=⟨Blk.new' hq.symm rfl,(Below.refl _ _).alloc (Nat.le_refl _) _⟩
 clear hd hw hs hk hnC;by_cases hsl:0<=slot/\slot<2
 ·obtain ⟨i,rfl⟩:∃i:Nat,slot=i:=⟨slot.toNat,by omega⟩
  have hi2:(i:Int)<2:=hsl.2;obtain ⟨E,hE⟩:∃E,E=ckE s ps:=⟨_,rfl⟩
  have HE:Hid (E=ckE s ps/\svE s i ps=E/\i<2):=⟨hE,by unfold svE;rw [if_pos hsl,hE],by omega⟩
  clear hE hsl;go_enter func67,ntmps67
  go_upto_region 3 with fail
  rw [<-hq];clear hq;generalize hW1:World.alloc W _=W1 at HW ⊢;clear hW1;have c0:W1.cell? ⟨q,0,none⟩=some (.int .u64 seq):=HW.out.1.cell 0;have c1:W1.cell? ⟨q,1,none⟩=some (.slice A n C):=HW.out.1.cell 1;have HSh:Hid (∀X,Below W1.heap.size W1 X->Calls prog 72 #[.pointer (some ⟨p,0,none⟩)] X λ e Y=>e=.returned (.agg (shL s).toArray)/\Below W1.heap.size W1 Y/\Y.cell? ⟨q,0,none⟩=some (.int .u64 seq)/\Y.cell? ⟨q,1,none⟩=some (.slice A n C)):=by
   intro X hX;refine (Ql0 (Qa7 (Qa7 H.out.1 HW.out.2) hX)).mono ?_
   rintro e Y ⟨rfl,hY⟩;have hb:=hX.trans (hY.mono hX.size);have kb:=HW.out.1.below hb HW.out.1.lt;exact ⟨rfl,hb,kb.cell 0,kb.cell 1⟩
  have HEn:Hid (∀X,Below W1.heap.size W1 X->Calls prog 32 #[.agg (shL s).toArray,.agg #[.int .u64 seq,.slice A n C]] X λ e Z=>∃av nv cv,e=.returned (.tuple #[.slice av nv cv,.int .u16 E])/\RowAt (λ j=>W.heap.size<=j/\j<Z.heap.size) Z (.slice av nv cv) (ckO s seq ps)/\Below W.heap.size W Z/\Z.cell? ⟨q,0,none⟩=some (.int .u64 seq)/\Z.cell? ⟨q,1,none⟩=some (.slice A n C)):=by
   intro X hX;have hbX:=HW.out.2.trans (hX.mono HW.out.2.size);refine (Qk0 s seq A n C ps X (by have:=(J2 H).right.1;omega) (J3 H) ((J4 H).below hbX) (J5 H)).mono ?_
   rintro e Z ⟨v,rfl,rZ,bZ⟩;obtain ⟨av,cv,rfl⟩:=rZ.slice;have hb:=hX.trans (bZ.mono hX.size);have kb:=HW.out.1.below hb HW.out.1.lt;exact ⟨av,_,cv,by rw [HE.out.1],rZ.mono (λ c hc hlt=>⟨Nat.le_trans hbX.size hc,hlt⟩),hbX.trans (bZ.mono hbX.size),kb.cell 0,kb.cell 1⟩
  go_region_held3 (λ X=>X.cell? ⟨q,0,none⟩=some (.int .u64 seq)/\X.cell? ⟨q,1,none⟩=some (.slice A n C)) (first | exact ⟨c0,c1⟩ | exact ⟨d0,d1⟩ | exact ⟨e0,e1⟩)
   (first
   | (go_simp;go_at_call 32;refine (HEn.out _ (by exact bY)).mono ?_;rintro e Z ⟨av,nv,cv,rfl,rZ,bZ,e0,e1⟩)
   | (go_simp;go_at_call 72;refine (HSh.out _ (by exact (Below.refl _ _).drew)).mono ?_;rintro e Y ⟨rfl,bY,d0,d1⟩))
  all_goals (
   have HZ:=Jh2 rZ bZ;clear rZ bZ e0 e1 d0 d1 bY HEn HSh c0 c1;by_cases hE0:E=0
   ·subst hE0
    have hck:ckE s ps=0:=HE.out.1.symm;obtain ⟨ls,hls⟩:∃ls,ls=ckL s seq ps:=⟨_,rfl⟩
    have hO:ckO s seq ps=ls:=by unfold ckO;rw [if_pos hck,hls]
    have hsz:=Qlk (seq:=seq) hck;have hsh:=Qf7 (seq:=seq) hck;rw [<-hls] at hsz hsh;have hlz:(ls.length:Int)<=s.zb:=by rw [hls,Qbt];exact (Qb2.1 hck).2
    have hnv:nv=ls.length:=by obtain ⟨_,_,e⟩:=HZ.out.1.slice;cases e;rw [hO]
    have hiz:i<zs.length:=by have h1:=(J2 H).len;have h2:=(J2 H).right.1;have:=(Jz2 HE);omega
    have hd1:=Qa7 H.out.1.there HZ.out.2;have HL:Hid (ls=ckL s seq ps/\ckO s seq ps=ls/\(∀D∈ls,(D.length:Int)=s.b)/\Qtq ls/\(ls.length:Int)<=s.zb/\nv=ls.length/\i<zs.length/\RowAt (λ j=>W.heap.size<=j/\j<Z.heap.size) Z (.slice av nv cv) ls/\Below W.heap.size W Z):=⟨hls,hO,hsz,hsh,hlz,hnv,hiz,by rw [<-hO];exact HZ.out.1,HZ.out.2⟩
    have HD:=Jh1 hd1;have hnv4:nv<=4096:=by have h1:=(J2 H).right.2.2.2.1;omega
    clear hls hO hsz hsh hlz hnv hiz hd1 hck HZ;go_upto_region 7 with (go_at_call 35;refine (Qyo (i:Int) HD.out).mono ?_;rintro e V ⟨rfl,sV⟩)
    rw [Qgb] at sV;have HV:Hid (SvSt 98 (λ x=>O x/\x<W.heap.size) Z p s (zs.set i (ls.take 0,0)) V):=by
     have:=SvSt.step (O:=λ x=>O x/\x<W.heap.size) (W:=Z) (λ x h=>.inl h) (Out.refl _ _) sV;show SvSt 98 (λ x=>O x/\x<W.heap.size) Z p s (zs.set i (ls.take 0,0)) V;simpa using this
    clear sV;go_wp2
    go_loopw [32] (λ x wr=>∃k:Nat,x=.int .i64 k/\k<=nv/\SvSt 98 (λ x=>O x/\x<W.heap.size) Z p s (zs.set i (ls.take k,0)) wr) (λ x _=>nv - (intOf x).toNat)
    case atStart=>exact ⟨0,rfl,Nat.zero_le _,HV.out⟩
    case round=>
     obtain ⟨k,rfl,hk,O',hdk,hOk,hok⟩:=hrel;rcases Nat.lt_or_ge k nv with hlt | hge
     ·obtain ⟨D,hD⟩:∃D,ls[k]?=some D:=⟨ls[k]'(by have:=(J6 HL);omega),by simp⟩
      have row:=(J8 HL).out hok (λ r e h=>by obtain ⟨_,_,r2,_⟩:=(J8 HL);have:=r2 r e;omega) (λ c _ hc _ h=>by omega);obtain ⟨b',off,A1,L1,C1,hA,k1,k2,k3,_,k5⟩:=(row.bsin (J4 HL)).at hD;subst hA;have hAp:=Qjj (i:Int) A1 L1 C1 D hdk (Qvc (J2 H) i k (J3 HL) (J5 HL)) k2 k3 k5;have hk':(k:Int)<nv:=by omega
      have hwk:IntKind.i64.wrap ((k:Int)+1)=(k:Int)+1:=by rw [IntKind.wrap_i64];omega
      have HA:Hid (Calls prog 36 #[.pointer (some ⟨p,0,none⟩),.int .i64 (i:Int),.slice A1 L1 C1] wr λ e w'=>(∃v,e=.returned v)/\SvSt 98 (λ x=>O x/\x<W.heap.size) Z p s (zs.set i (ls.take (k+1),0)) w'):=by
       refine hAp.mono ?_
       rintro e w' ⟨rfl,st⟩;rw [Qr1 (J7 HL) hD ((J3 HL) D (List.mem_of_getElem? hD)) (J5 HL)] at st;exact ⟨⟨_,rfl⟩,SvSt.step hOk hok st⟩
      clear hAp row k2 k3 k5 hD hdk hOk hok;go_wp2_with (go_at_call 36;refine HA.out.mono ?_;rintro e w9 ⟨⟨v9,rfl⟩,st9⟩)
      have H9:=Jh1 st9;clear st9;go_roundw
      case rel=>exact ⟨k+1,by simp,by omega,H9.out⟩
      case measure=>simp [intOf];omega
     ·obtain rfl:k=nv:=by omega
      have htk:ls.take k=ls:=List.take_of_length_le (by rw [(J6 HL)];exact Nat.le_refl _);rw [htk] at hdk;have HF:Hid (Calls prog 66 #[.pointer (some ⟨p,0,none⟩)] wr λ e w'=>(∃v,e=.returned v)/\SvSt 98 O W p s (putZ zs i ls) w'):=by
       refine (Qpz hdk).mono ?_
       rintro e w' ⟨hv,st⟩;exact ⟨hv,SvSt.of (O1:=λ x=>O x/\x<W.heap.size) (λ x h=>h.1) (Jz8 HL) (SvSt.step hOk hok st)⟩
      clear hdk hOk hok htk;go_wp2_with (go_at_call 66;refine HF.out.mono ?_;rintro e w9 ⟨⟨v9,rfl⟩,st9⟩)
      go_ret
      refine ⟨by rw [(J2 HE)];rfl,?_⟩
      unfold svZ;rw [if_pos (J2 HE),Int.toNat_natCast,<-HL.out.1];exact st9
   ·have hEb:(E != 0)=true:=by simp [hE0]
    have HN:Hid (SvSt 98 O W p s (svZ s zs i seq ps) Z):=by
     have:svZ s zs i seq ps=zs:=by unfold svZ;rw [if_neg (by rw [(J2 HE)];exact hE0)]
     rw [this];exact (SvSt.start H.out.1).under HZ.out.2
    clear hE0 HZ;go_wp2
    go_ret
    exact ⟨by rw [(J2 HE)];rfl,HN.out⟩)
 ·have HN:Hid (∀X,Below W.heap.size W X->Q0e 98 .u16 O W p s zs slot seq ps (.returned (.int .u16 1)) X):=by
   intro X hX;have h1:svE s slot ps=1:=by unfold svE;rw [if_neg hsl]
   refine ⟨by rw [h1],?_⟩
   have:svZ s zs slot seq ps=zs:=by unfold svZ;rw [if_neg (by rw [h1];decide)]
   rw [this];exact (SvSt.start H.out.1).under hX
  rcases Int.lt_or_le slot 0 with h0 | h0
  ·clear hsl
   go_enter func67,ntmps67
   go_wp2
   go_ret
   exact HN.out _ HW.out.2
  ·have h2:2<=slot:=by omega
   have h0':¬slot<0:=by omega
   clear hsl;go_enter func67,ntmps67
   go_wp2
   go_ret
   exact HN.out _ HW.out.2
end
open Classical in
noncomputable def Qbo (s:Sh) (b:Int × List Pl × Int × Int) (l:List (List Int)) (j:Int):Int × List Pl × Int × Int:=if IsK s l/\(b.2.2.2≠0\/b.1<Qa0 l) then (Qa0 l,Qaw l,j,0) else b
noncomputable def Qa2 (s:Sh) (zs:List Zn):Nat->Int × List Pl × Int × Int
 | 0=>(0,[],0,142)
 | j+1=>Qbo s (Qa2 s zs j) (zs.getD j ([],0)).1 (j:Int)
def Qj4 (k:IntKind) (W:World) (s:Sh) (zs:List Zn) (e:Ending) (w':World):Prop:=
 ∃A n C,e=.returned (.tuple #[.agg #[.int .u64 (Qa2 s zs 2).1,.slice A n C],.int .i64 (Qa2 s zs 2).2.2.1,.int k (Qa2 s zs 2).2.2.2])/\KIn w' A n (Qa2 s zs 2).2.1/\n<=C/\Below W.heap.size W w'
theorem Qmn {s:Sh} {zs:List Zn} {j:Nat} {z:Zn} (hz:zs[j]?=some z) (h:IsK s z.1) (h2:(Qa2 s zs j).2.2.2≠0\/(Qa2 s zs j).1<Qa0 z.1):Qa2 s zs (j+1)=(Qa0 z.1,Qaw z.1,(j:Int),0):=by
 have e:zs.getD j ([],0)=z:=by simp [List.getD,hz]
 show Qbo s (Qa2 s zs j) (zs.getD j ([],0)).1 (j:Int)=_;unfold Qbo;rw [e,if_pos ⟨h,h2⟩]
theorem Qmh {s:Sh} {zs:List Zn} {j:Nat} {z:Zn} (hz:zs[j]?=some z) (h:¬(IsK s z.1/\((Qa2 s zs j).2.2.2≠0\/(Qa2 s zs j).1<Qa0 z.1))):Qa2 s zs (j+1)=Qa2 s zs j:=by
 have e:zs.getD j ([],0)=z:=by simp [List.getD,hz]
 show Qbo s (Qa2 s zs j) (zs.getD j ([],0)).1 (j:Int)=_;unfold Qbo;rw [e,if_neg h]
structure LdSt (q:Nat) (W wr:World) (seq:Int) (A:Option Addr) (N C:Nat) (xs:List Pl):Prop where
 res:Blk wr q [.int .u64 0,.slice none 0 0] 82
 best:Blk wr (q+1) [.int .u64 seq,.slice A N C] 82
 kin:KIn wr A N xs
 cap:N<=C
 bel:Below W.heap.size W wr
 heap:q=W.heap.size
theorem LdSt.below {q:Nat} {W wr w':World} {seq:Int} {A:Option Addr} {N C:Nat} {xs:List Pl} (h:LdSt q W wr seq A N C xs) (hb:Below wr.heap.size wr w'):LdSt q W w' seq A N C xs:=
 ⟨h.res.below hb h.res.lt,h.best.below hb h.best.lt,h.kin.below hb,h.cap,h.bel.trans (hb.mono h.bel.size),h.heap⟩
theorem Qdt {P:Program} {fn:Func} {p u v:Tmp} {ty:TypeId} (h:fn.results=#[.cell p ty,.tmp u,.tmp v]) (tmps:Array Value) (w:World) (g:Nat) (L:List Value) (t:TypeId) (d:TypeDesc) (hp:tmps.getD p undef=.pointer (some ⟨g,0,none⟩))
  (hb:Blk w g L t) (hu:P.underlying ty=some d) (hd:d.isRow=true) (hi:(P.info? ty).map (·.size)=some L.length) (x y:Value) (hx:tmps.getD u undef=x) (hy:tmps.getD v undef=y):(results fn tmps).run P w=.ok (.tuple #[.agg L.toArray,x,y]) w:=by
 subst hx;subst hy;have hl:=run_loadVar_row (P:=P) w g t ty L.toArray (0,0) d hb hu (by cases d <;> first | rfl | cases hd) (by simpa using hi);have:(results fn tmps).run P w=((asAddr (tmps.getD p undef)).run P w).andThen λ a w₁=>((loadVar ty a).run P w₁).andThen λ z w₂=>.ok (.tuple #[z,tmps.getD u undef,tmps.getD v undef]) w₂:=by
  simp only [results,h]
  simp [Sem.run_bind,Result.andThen]
 rw [this,hp];simp [asAddr,hl,Result.andThen]
set_option maxHeartbeats 4000000 in
theorem Qxh {O:Nat->Prop} {W:World} {p:Nat} {s:Sh} {zs:List Zn} (hd:Dv 98 O W p s zs) (hw:Wf s zs) :
  Calls prog 56 #[.pointer (some ⟨p,0,none⟩)] W (Qj4 .u16 W s zs):=by
 obtain ⟨q,hq⟩:∃q,q=W.heap.size:=⟨_,rfl⟩
 have st0:LdSt q W ((W.alloc (.cells #[.int .u64 0,.slice none 0 0] 82)).alloc (.cells #[.int .u64 0,.slice none 0 0] 82)) 0 none 0 0 []:=⟨(Blk.new' hq.symm rfl).alloc _,Blk.new' (by simp [hq]) rfl,Qfa _,Nat.le_refl _,((Below.refl _ _).alloc (Nat.le_refl _) _).alloc (by simp) _,hq⟩
 have H:Hid (Dv 98 O W p s zs/\Wf s zs/\q=W.heap.size/\6<=zs.length/\-9223372036854775808<=s.z):=⟨hd,hw,hq,by have h1:=hw.len;have h2:=hw.right.1;omega,by have h2:=hw.right.1;omega⟩
 clear hd hw;go_enter func56,ntmps56
 go_upto_region 2 with fail
 rw [<-hq];clear hq;generalize hW0:World.alloc (World.alloc W _) _=W0 at st0 ⊢;have H0:=Jh1 st0;clear st0 hW0;go_wp2
 go_loopw [6,7,12] (λ va ve x wr=>∃(j:Nat) (S Aa Er:Int) (xs:List Pl) (A:Option Addr) (N C:Nat),x=.int .i64 j/\va=.int .i64 Aa/\ve=.int .u16 Er/\j<=2/\Qa2 s zs j=(S,xs,Aa,Er)/\LdSt q W wr S A N C xs) (λ _ _ x _=>2 - (intOf x).toNat)
 case atStart=>exact ⟨0,0,0,142,[],none,0,0,rfl,rfl,rfl,by omega,rfl,H0.out⟩
 case round=>
  obtain ⟨j,S,Aa,Er,xs,A,N,C,rfl,rfl,rfl,hj,hbest,st⟩:=hrel;rcases Nat.lt_or_ge j 2 with hlt | hge
  ·obtain ⟨z,hz⟩:∃z,zs[j]?=some z:=⟨zs[j]'(by have:=(J4 H);omega),by simp⟩
   have hj':(j:Int)<2:=by omega
   have hwj:IntKind.i64.wrap ((j:Int)+1)=(j:Int)+1:=by rw [IntKind.wrap_i64];omega
   have HSh:Hid (Calls prog 72 #[.pointer (some ⟨p,0,none⟩)] wr λ e Y=>e=.returned (.agg (shL s).toArray)/\Below wr.heap.size wr Y):=Ql0 (Qa7 H.out.1 st.bel);have HHe:Hid (∀Y,Below wr.heap.size wr Y->Calls prog 121 #[.pointer (some ⟨p,0,none⟩),.int .i64 (j:Int)] Y λ e X=>∃av nv cv,e=.returned (.slice av nv cv)/\BsIn X av nv z.1/\Below wr.heap.size wr X):=by
    intro Y hY;refine (Qxz j (Qa7 (Qa7 H.out.1 st.bel) hY) (J2 H) hz).mono ?_
    rintro e X ⟨v,rfl,row,bX⟩;obtain ⟨av,cv,rfl⟩:=row.slice;exact ⟨av,_,cv,rfl,row.bsin ((J2 H).short z (List.mem_of_getElem? hz)),hY.trans (bX.mono hY.size)⟩
   have HDe:Hid (∀X av nv cv,BsIn X av nv z.1->Below wr.heap.size wr X->Calls prog 120 #[.agg (shL s).toArray,.slice av nv cv] X λ e Y=>∃A' n' C',e=.returned (.tuple #[.agg #[.int .u64 (dkS s z.1),.slice A' n' C'],.int .u16 (dkE s z.1)])/\KIn Y A' n' (dkX s z.1)/\n'<=C'/\Below wr.heap.size wr Y):=by
    intro X av nv cv hb hX;refine (Qsg s av nv cv z.1 X (Jz4 H) hb).mono ?_
    rintro e Y ⟨A',n',C',rfl,h1,h2,h3⟩;exact ⟨A',n',C',rfl,h1,h2,hX.trans (h3.mono hX.size)⟩
   obtain ⟨S',hS'⟩:∃S',S'=dkS s z.1:=⟨_,rfl⟩
   obtain ⟨E',hE'⟩:∃E',E'=dkE s z.1:=⟨_,rfl⟩
   rw [<-hS',<-hE'] at HDe;have HST:=Jh5 st hbest hz hS' hE';clear st hbest hz hS' hE';go_upto_region 6 with (first
    | (go_at_call 120;refine (HDe.out X av nv cv hbs bX).mono ?_;rintro e Y2 ⟨A',n',C',rfl,k2,hn2,b2⟩)
    | (go_at_call 121;refine (HHe.out Y bY).mono ?_;rintro e X ⟨av,nv,cv,rfl,hbs,bX⟩)
    | (go_at_call 72;refine HSh.out.mono ?_;rintro e Y ⟨rfl,bY⟩))
   obtain ⟨q9,hq9⟩:∃q9,q9=Y2.heap.size:=⟨_,rfl⟩
   have H9:Hid (LdSt q W (Y2.alloc (.cells #[.int .u64 S',.slice A' n' C'] 82)) S A N C xs/\Blk (Y2.alloc (.cells #[.int .u64 S',.slice A' n' C'] 82)) q9 [.int .u64 S',.slice A' n' C'] 82/\KIn (Y2.alloc (.cells #[.int .u64 S',.slice A' n' C'] 82)) A' n' (dkX s z.1)/\n'<=C'/\q+2<=q9):=by
    have b3:Below wr.heap.size wr (Y2.alloc (.cells #[.int .u64 S',.slice A' n' C'] 82)):=b2.alloc b2.size _;refine ⟨HST.out.1.below b3,Blk.new' hq9.symm rfl,k2.alloc _,hn2,?_⟩
    have h1:=HST.out.1.best.lt;have h2:=b2.size;omega
   rw [<-hq9];clear hq9 k2 hn2 b2 hbs bX bY HSh HHe HDe;generalize hW9:World.alloc Y2 _=W9 at H9 ⊢;clear hW9;by_cases hK:IsK s z.1
   ·have hE0:E'=0:=by rw [(Jz4 HST)];unfold dkE;rw [if_pos hK]
    have hSS:S'=Qa0 z.1:=by rw [(J4 HST)];unfold dkS;rw [if_pos hK]
    have hXX:dkX s z.1=Qaw z.1:=by unfold dkX;rw [if_pos hK]
    have HK:=Jh3 hK hSS hXX;clear hK hSS hXX;subst hE0;have c0:W9.cell? ⟨q9,0,none⟩=some (.int .u64 S'):=(J2 H9).cell 0;have c1:W9.cell? ⟨q9,1,none⟩=some (.slice A' n' C'):=(J2 H9).cell 1;have d0:W9.cell? ⟨q+1,0,none⟩=some (.int .u64 S):=H9.out.1.best.cell 0;have d1:W9.cell? ⟨q+1,1,none⟩=some (.slice A N C):=H9.out.1.best.cell 1;have z0:=H9.out.1.best.frozen 0;have z1:=H9.out.1.best.frozen 1;have hqn:q9≠q+1:=by have:=(Jz4 H9);omega
    have HT:Hid ((Er≠0\/S<S')->LdSt q W ((W9.setCell ⟨q+1,0,none⟩ (.int .u64 S')).setCell ⟨q+1,1,none⟩ (.slice A' n' C')) S' A' n' C' (Qaw z.1)/\Qa2 s zs (j+1)=(S',Qaw z.1,(j:Int),0)):=by
     intro h;have hqw:=(J3 H)
     have e1:Blk (W9.setCell ⟨q+1,0,none⟩ (.int .u64 S')) (q+1) [.int .u64 S',.slice A N C] 82:=H9.out.1.best.set 0 _;refine ⟨⟨(H9.out.1.res.set_other (by show q≠q+1;omega) _).set_other (by show q≠q+1;omega) _,e1.set 1 _,?_,(J4 H9),(H9.out.1.bel.setCell (by show W.heap.size<=q+1;omega) _).setCell (by show W.heap.size<=q+1;omega) _,hqw⟩,?_⟩
     ·rw [<-(Jz2 HK)]
      exact ((J3 H9).set (Qdo H9.out.1.best) 0 _).set (Qdo e1) 1 _
     ·rw [Qmn (J3 HST) HK.out.1 (by rw [(J2 HST),<-(J2 HK)];exact h),<-(J2 HK)]
    have HU:Hid (¬(Er≠0\/S<S')->Qa2 s zs (j+1)=(S,xs,Aa,Er)):=by
     intro h;rw [Qmh (J3 HST) (by rw [(J2 HST),<-(J2 HK)];exact λ h'=>h h'.2),(J2 HST)]
    by_cases hEr:Er=0
    ·subst hEr
     by_cases hSl:S<S'
     ·have hSl':decide (S<S')=true:=by simp [hSl]
      have HR:=HT.out (.inr hSl);have HR2:=Jh1 HR;clear HR hSl HT HU;go_wp2
      go_roundw
      case rel=>exact ⟨j+1,S',j,0,Qaw z.1,A',n',C',by simp,rfl,rfl,by omega,HR2.out.2,HR2.out.1⟩
      case measure=>simp [intOf];omega
     ·have hSl':decide (S<S')=false:=by simp;omega
      have HR2:Hid (LdSt q W W9 S A N C xs/\Qa2 s zs (j+1)=(S,xs,Aa,0)):=⟨H9.out.1,HU.out (by simp;omega)⟩
      clear HT HU hSl;go_wp2
      go_roundw
      case rel=>exact ⟨j+1,S,Aa,0,xs,A,N,C,by simp,rfl,rfl,by omega,HR2.out.2,HR2.out.1⟩
      case measure=>simp [intOf];omega
    ·have hErb:(Er != 0)=true:=by simp [hEr]
     have HR:=HT.out (.inl hEr);have HR2:=Jh1 HR;clear HR hEr HT HU;go_wp2
     go_roundw
     case rel=>exact ⟨j+1,S',j,0,Qaw z.1,A',n',C',by simp,rfl,rfl,by omega,HR2.out.2,HR2.out.1⟩
     case measure=>simp [intOf];omega
   ·have hE1:E'=141:=by rw [(Jz4 HST)];unfold dkE;rw [if_neg hK]
    have HR2:Hid (LdSt q W W9 S A N C xs/\Qa2 s zs (j+1)=(S,xs,Aa,Er)):=⟨H9.out.1,by rw [Qmh (J3 HST) (λ h=>hK h.1),(J2 HST)]⟩
    clear hK;subst hE1;go_wp2
    go_roundw
    case rel=>exact ⟨j+1,S,Aa,Er,xs,A,N,C,by simp,rfl,rfl,by omega,HR2.out.2,HR2.out.1⟩
    case measure=>simp [intOf];omega
  ·obtain rfl:j=2:=by omega
   have k0:wr.cell? ⟨q+1,0,none⟩=some (.int .u64 S):=st.best.cell 0;have k1:wr.cell? ⟨q+1,1,none⟩=some (.slice A N C):=st.best.cell 1;have d0:wr.cell? ⟨q,0,none⟩=some (.int .u64 0):=st.res.cell 0;have d1:wr.cell? ⟨q,1,none⟩=some (.slice none 0 0):=st.res.cell 1;have z0:=st.res.frozen 0;have z1:=st.res.frozen 1;have HZ:Hid (Blk ((wr.setCell ⟨q,0,none⟩ (.int .u64 S)).setCell ⟨q,1,none⟩ (.slice A N C)) q [.int .u64 S,.slice A N C] 82/\Qj4 .u16 W s zs (.returned (.tuple #[.agg #[.int .u64 S,.slice A N C],.int .i64 Aa,.int .u16 Er])) ((wr.setCell ⟨q,0,none⟩ (.int .u64 S)).setCell ⟨q,1,none⟩ (.slice A N C))):=by
    have e1:Blk (wr.setCell ⟨q,0,none⟩ (.int .u64 S)) q [.int .u64 S,.slice none 0 0] 82:=st.res.set 0 _;have hqw:=(J3 H)
    refine ⟨e1.set 1 _,A,N,C,by rw [hbest],by rw [hbest];exact (st.kin.set (Qdo st.res) 0 _).set (Qdo e1) 1 _,st.cap,(st.bel.setCell (by show W.heap.size<=q;omega) _).setCell (by show W.heap.size<=q;omega) _⟩
   clear st hbest;go_wp2
   exact bodyPost_ret (Qdt (p:=2) (u:=3) (v:=4) (ty:=82) rfl _ _ q _ _ _ rfl HZ.out.1 Tryz.underlying82 rfl Tryz.info_state _ _ rfl rfl) rfl HZ.out.2
end Go.Proofs.YtcdnjeiamihhbaaGreat

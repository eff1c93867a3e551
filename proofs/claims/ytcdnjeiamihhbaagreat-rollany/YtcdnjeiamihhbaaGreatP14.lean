/- P14 -/
import Derived.Test.YtcdnjeiamihhbaaGreatP13
set_option linter.unusedVariables false
set_option maxRecDepth 4000
open Go.Proofs.Tryz
namespace Go.Proofs.YtcdnjeiamihhbaaGreat
open Go.RowKit
def ItsIn (w:World) (a:Option Addr) (n:Nat) (xs:List It):Prop:=
 xs.length=n/\n<=maxLen/\(∀x∈xs,x.Fits)/\(n=0\/∃b off,a=some ⟨b,off,none⟩/\∀(i:Nat) (x:It),xs[i]?=some x->∀(j:Nat) (v:Value),(itL x)[j]?=some v->w.cell? ⟨b,off+i*5+j,none⟩=some v)
theorem ItsIn.below {w w':World} {a:Option Addr} {n:Nat} {xs:List It} (h:ItsIn w a n xs) (hb:Below w.heap.size w w'):ItsIn w' a n xs:=by
 obtain ⟨h1,h2,h3,h4⟩:=h;refine ⟨h1,h2,h3,?_⟩
 rcases h4 with h4 | ⟨b,off,ha,hc⟩
 ·exact .inl h4
 ·exact .inr ⟨b,off,ha,λ i x hx j v hv=>by rw [hb.cell (Qaa (hc i x hx j v hv))];exact hc i x hx j v hv⟩
theorem Qkv (w:World):ItsIn w none 0 []:=⟨rfl,Nat.zero_le _,by simp,.inl rfl⟩
def Qw2:ByteArray:=⟨#[114,101,99,58,32,116,104,101,32,114,101,99,111,114,100,32,104,97,115,32,110,111,32,98,108,111,99,107]⟩
def pgL (seq:Int) (xs:List It) (N i:Nat):List Int:=(hdB seq xs.length ++ itsB (xs.take i)) ++ List.replicate (N - (18+19*i)) 0
theorem Q0h (seq:Int) (xs:List It) (N:Nat) (h:18<=N):splice (List.replicate N 0) 0 (hdB seq xs.length)=pgL seq xs N 0:=by
 have:=Qkh (P:=[]) (Q:=hdB seq xs.length) (m:=N) (by rw [Qco];exact h);simp only [List.nil_append,List.length_nil] at this
 rw [this,Qco];simp [pgL,itsB]
theorem Qx3 {seq:Int} {xs:List It} {i:Nat} (h:i<=xs.length):(hdB seq xs.length ++ itsB (xs.take i)).length=18+19*i:=by
 rw [List.length_append,Qco,Qf2,List.length_take,Nat.min_eq_left h]
theorem Q1f {seq:Int} {xs:List It} {N i:Nat} {x:It} (hx:xs[i]?=some x) (h:18+19*(i+1)<=N):splice (pgL seq xs N i) (18+19*i) (itB x)=pgL seq xs N (i+1):=by
 have hi:=(List.getElem?_eq_some_iff.1 hx).1;have hf:=Qx3 (seq:=seq) (xs:=xs) (i:=i) (by omega);have:=Qkh (P:=hdB seq xs.length ++ itsB (xs.take i)) (Q:=itB x) (m:=N - (18+19*i)) (by rw [Qdd];omega);rw [hf] at this;unfold pgL;rw [this,List.take_add_one,hx,Option.toList_some,Qoa,Qdd];simp only [List.append_assoc]
 congr 4
theorem Q21 {seq:Int} {xs:List It} {N:Nat} (h:19+19*xs.length<=N):(pgL seq xs N xs.length).set (N - 1) 231=Qbw seq xs N:=by
 unfold pgL Qbw Qh3;rw [List.take_of_length_le (Nat.le_refl _)];have hf:(hdB seq xs.length ++ itsB xs).length=18+19*xs.length:=by rw [List.length_append,Qco,Qf2]
 have e:N - (18+19*xs.length)=(N - 1 - (18+19*xs.length))+1:=by omega
 rw [e,List.replicate_succ',List.set_append_right _ _ (by rw [hf];omega),List.set_append_right _ _ (by rw [hf,List.length_replicate];omega)];have e2:N - 1 - (hdB seq xs.length ++ itsB xs).length - (List.replicate (N - 1 - (18+19*xs.length)) (0:Int)).length=0:=by rw [hf,List.length_replicate];omega
 rw [e2];simp
def Q0c (w:World) (seq:Int) (xs:List It) (b:Int) (e:Ending) (w':World):Prop:=
 Below w.heap.size w w'/\((¬GoodR xs b/\e=Qdm Qw2)\/(GoodR xs b/\∃(pb N:Nat),b=N/\e=.returned (.slice (some ⟨pb,0,none⟩) N N)/\w'.ownsRow w.heap.size 5 1 (.slice (some ⟨pb,0,none⟩) N N) N (u8s (encL seq xs N))))
theorem Q02 {s n:Int} (hs:Qai s) (hn:Qai n):∀(X:World) (g:Nat),X.heap.size=g->NIn .u64 (X.alloc (.cells #[.int .u64 1129074503,.int .u64 0,.int .u64 s,.int .u64 n] 45)) (some ⟨g,0,none⟩) 4 (hdV s n):=
 λ X g e=>Qdq 45 e rfl rfl (Qyg hs hn) (by omega)
theorem Q0w {x:It} (h:x.Fits):∀(X:World) (g:Nat),X.heap.size=g->NIn .u64 (X.alloc (.cells #[.int .u64 x.t,.int .u64 x.b,.int .u64 x.k,.int .u64 x.s,.int .u64 x.e] 45)) (some ⟨g,0,none⟩) 5 (itV x):=
 λ X g e=>Qdq 45 e rfl rfl (Qzx h) (by omega)
theorem Pg.alloc {w:World} {g pb N k:Nat} {L:List Int} (h:Pg w g pb N k L) (o:Obj):Pg (w.alloc o) g pb N k L:=h.below ((Below.refl _ _).alloc (Nat.le_refl _) o)
theorem Qu8 {g pb N k:Nat} {L ws vs:List Int} {b d:Option Addr} {n c m f B:Nat} {w W:World} {o1 o2:Obj} (hp:Pg w g pb N k L) (hW:W=(w.alloc o1).alloc o2) (hx:NIn .i64 W b n ws) (hy:NIn .u64 W d m vs)
  (hk:k+(Qan ws vs).length<=N) (hkN:k<N) (hN:N<=100000) (hn:n<=1000) (hm:m<=1000) (hBp:B<=pb) (hBg:B<=g) :
  Calls prog 257 #[.pointer (some ⟨g,0,none⟩),.slice b n c,.slice d m f] W.drew (PutE w B g pb N k L (Qan ws vs)):=by
 subst hW;refine (Q07 g pb N k L b n c ws d m f vs B _ ((hp.alloc _).alloc _).drew hx.drew hy.drew hk hkN hN hn hm hBp hBg).mono ?_
 rintro e w' ⟨h1,h2,h3,h4⟩;have hl:=hp.hp.lt;refine ⟨h1,h2,((((Below.refl _ _).alloc (by omega) _).alloc (by simp;omega) _).drew).trans h3,λ j k1 k2 k3=>?_⟩
 rw [h4 j (by simp;omega) k2 k3];show ((w.alloc o1).alloc o2).heap[j]?=_;rw [Below.heap_alloc _ _ _ (by simp;omega),Below.heap_alloc _ _ _ k1]
theorem Pg.bin {w:World} {g pb N k:Nat} {L:List Int} (h:Pg w g pb N k L) (hf:∀z∈L,Qaf z) (hN:N<=100000):BIn w (some ⟨pb,0,none⟩) N L:=by
 refine ⟨h.len,by unfold maxLen;omega,hf,.inr ⟨pb,0,rfl,λ i hi=>?_⟩⟩
 rw [Nat.zero_add,h.hb.cell];have:=h.len;simp [u8s,List.getD,this,hi]
theorem Pg.own {w:World} {g pb N k:Nat} {L:List Int} (h:Pg w g pb N k L) (B:Nat) (hB:B<=pb) (hN:N<=100000):w.ownsRow B 5 1 (.slice (some ⟨pb,0,none⟩) N N) N (u8s L):=
 ⟨by rw [Qah,h.len];omega,.inr ⟨pb,N,(u8s L).toArray,rfl,hB,h.hb,Nat.le_refl _,by unfold maxLen;omega,by simp [u8s,h.len],by rw [Nat.mul_one,List.take_of_length_le (by simp [u8s,h.len])]⟩⟩
theorem Pg.byte {w:World} {g pb N k M:Nat} {L:List Int} (h:Pg w g pb N k L) (hM:M<N) (z:Int):(∃y,w.cell? ⟨pb,M,none⟩=some (.int .u8 y))/\w.frozen? ⟨pb,M,none⟩=false/\Pg (w.setCell ⟨pb,M,none⟩ (.int .u8 z)) g pb N k (L.set M z):=by
 have hl:=h.len;refine ⟨⟨L.getD M 0,by rw [h.hb.cell];simp [u8s,List.getD,hl,hM]⟩,h.hb.frozen _,⟨h.hp.set_other h.ne _,?_,by simp [hl],h.ne⟩⟩
 have:=h.hb.set M (.int .u8 z);have e:(u8s L).set M (.int .u8 z)=u8s (L.set M z):=by simp [u8s,List.map_set]
 rw [e] at this;exact this
theorem Pg.seek {w:World} {g pb N k:Nat} {L:List Int} (h:Pg w g pb N k L) (m:Nat):Pg (w.setCell ⟨g,1,none⟩ (.int .i64 (m:Nat))) g pb N m L:=⟨h.hp.set 1 _,h.hb.set_other (λ e=>h.ne e.symm) _,h.len,h.ne⟩
set_option maxHeartbeats 4000000 in
theorem Qki (seq:Int) (A:Option Addr) (n C:Nat) (xs:List It) (b:Int) (w:World) (hs:Qai seq) (hi:ItsIn w A n xs) :
  Calls prog 209 #[.agg #[.int .u64 seq,.slice A n C],.int .i64 b] w (Q0c w seq xs b):=by
 obtain ⟨q,hq⟩:∃q,q=w.heap.size:=⟨_,rfl⟩
 have b0:Blk (w.alloc (.cells #[.int .u64 seq,.slice A n C] 177)) q [.int .u64 seq,.slice A n C] 177:=Blk.new' hq.symm rfl;have bw:Below w.heap.size w (w.alloc (.cells #[.int .u64 seq,.slice A n C] 177)):=(Below.refl _ _).alloc (Nat.le_refl _) _;have hsz:(w.alloc (.cells #[.int .u64 seq,.slice A n C] 177)).heap.size=q+1:=by simp [hq]
 go_enter func209,ntmps209
 go_upto_region 1 with fail
 rw [<-hq];generalize hW:World.alloc w _=W at b0 bw hsz ⊢;have H:Hid (Blk W q [.int .u64 seq,.slice A n C] 177/\Below w.heap.size w W/\W.heap.size=q+1/\Qai seq/\ItsIn w A n xs/\q=w.heap.size):=⟨b0,bw,hsz,hs,hi,hq⟩
 have c1:W.cell? ⟨q,1,none⟩=some (.slice A n C):=b0.cell 1;have hm:=hi.2.1;unfold maxLen at hm;clear hW b0 bw hsz hs hi hq;by_cases hn0:n=0
 ·have HN:Hid (¬GoodR xs b):=λ h=>by have:=h.1;have:=(J5 H).1;omega
  subst hn0;have z1:((0:Int) == 0)=true:=rfl;have z2:(((0:Nat):Int) == 0)=true:=rfl;go_quiet (fail)
  go_wp2
  exact ⟨rfl,Go.below_drewN (J2 H) _,.inl ⟨HN.out,rfl⟩⟩
 ·have hn0':((n:Int) == 0)=false:=by simp;omega
  have hn0d:(n == 0)=false:=by simp [hn0]
  have cR:=λ V=>Qu0 b V
  obtain ⟨R,hR⟩:∃R,R=Qbu b:=⟨_,rfl⟩
  simp only [<-hR] at cR
  by_cases hnr:R<(n:Int)
  ·have HN:Hid (¬GoodR xs b):=λ h=>by have:=h.2.1;have:=(J5 H).1;omega
   have hnd:decide (R<(n:Int))=true:=by simp [hnr]
   clear hR hnr;go_region_held3 (λ V=>V.cell? ⟨q,1,none⟩=some (.slice A n C)) (first | exact c1) ((go_at_call 77;refine (cR _).mono ?_;rintro e w2 ⟨rfl,hw2⟩;replace hw2:=hw2.symm;subst hw2))
   go_wp2
   exact ⟨rfl,(J2 H).drew,.inl ⟨HN.out,rfl⟩⟩
  ·have hnd:decide (R<(n:Int))=false:=by simp;omega
   have hrb:=Qd9 (b:=b) (by omega);have hpb:=Qar hrb.1;obtain ⟨N,rfl⟩:∃N:Nat,b=N:=⟨b.toNat,by omega⟩
   have HG:Hid (19+19*n<=N/\64<=N/\N<=4096/\((n:Int)<=Qbu N)/\0<n/\n<=214):=by
    have:=Qj6 (N:Int);exact ⟨by omega,by omega,by omega,by omega,by omega,by omega⟩
   clear hR hnr hrb hpb;go_region_held3 (λ V=>V.cell? ⟨q,1,none⟩=some (.slice A n C)) (first | exact c1) ((go_at_call 77;refine (cR _).mono ?_;rintro e w2 ⟨rfl,hw2⟩;replace hw2:=hw2.symm;subst hw2))
   clear cR hnd hn0' hn0d hn0;have hmk:=run_make_row' (P:=prog) 71 5 (.int .u8 0) 1 Tryz.underlying71 Tryz.zero_u8 rfl .i64 .i64 N (by have:=HG.out;omega) (by have:=HG.out;omega);have HW:Hid (Below w.heap.size w W.drew/\Blk W.drew q [.int .u64 seq,.slice A n C] 177/\ItsIn W.drew A n xs/\W.drew.heap.size=q+1):=⟨(J2 H).drew,H.out.1.drew,(J5 H).below (J2 H).drew,(J3 H)⟩
   generalize hV:World.drew W=V at HW ⊢;have p1:=Qpd N V;have s1:=(Jz3 HW)
   rw [s1] at p1;have hpg:Pg ((V.alloc (.cells (madeCells #[.int .u8 0] N) 5)).alloc (.cells #[.slice (some ⟨q+1,0,none⟩) N N,.int .i64 0] 322)) (q+2) (q+1) N 0 (List.replicate N 0):=
    ⟨Blk.new' (by simp [s1]) rfl,p1.alloc _,by simp,by omega⟩
   have hbl:Below (q+1) V ((V.alloc (.cells (madeCells #[.int .u8 0] N) 5)).alloc (.cells #[.slice (some ⟨q+1,0,none⟩) N N,.int .i64 0] 322)):=((Below.refl _ _).alloc (by omega) _).alloc (by simp;omega) _;clear p1 c1 hV;go_upto_region 4 with fail
   have e2:q+1+1=q+2:=rfl;rw [e2];clear e2;have it1:ItsIn ((V.alloc (.cells (madeCells #[.int .u8 0] N) 5)).alloc (.cells #[.slice (some ⟨q+1,0,none⟩) N N,.int .i64 0] 322)) A n xs:=(J3 HW).below (by rw [s1];exact hbl);have r1:Blk ((V.alloc (.cells (madeCells #[.int .u8 0] N) 5)).alloc (.cells #[.slice (some ⟨q+1,0,none⟩) N N,.int .i64 0] 322)) q [.int .u64 seq,.slice A n C] 177:=(J2 HW).below hbl (by omega);have bl1:=HW.out.1.trans (hbl.mono (by rw [<-(Jz5 H)];omega));generalize hV1:World.alloc (World.alloc V _) _=V1 at hpg hbl it1 r1 bl1 ⊢;have H1:Hid (Pg V1 (q+2) (q+1) N 0 (List.replicate N 0)/\Blk V1 q [.int .u64 seq,.slice A n C] 177/\Below w.heap.size w V1/\ItsIn V1 A n xs):=⟨hpg,r1,bl1,it1⟩
   have c0:V1.cell? ⟨q,0,none⟩=some (.int .u64 seq):=r1.cell 0;have c1:V1.cell? ⟨q,1,none⟩=some (.slice A n C):=r1.cell 1;have g0:∀o,(V1.alloc o).cell? ⟨q,0,none⟩=some (.int .u64 seq):=λ o=>(r1.alloc o).cell 0
   have g1:∀o,(V1.alloc o).cell? ⟨q,1,none⟩=some (.slice A n C):=λ o=>(r1.alloc o).cell 1
   have i0:∀o p,((V1.alloc o).alloc p).cell? ⟨q,0,none⟩=some (.int .u64 seq):=λ o p=>((r1.alloc o).alloc p).cell 0
   have i1:∀o p,((V1.alloc o).alloc p).cell? ⟨q,1,none⟩=some (.slice A n C):=λ o p=>((r1.alloc o).alloc p).cell 1
   have hnw:IntKind.u64.wrap (n:Int)=n:=by rw [IntKind.wrap_u64];have:=HG.out;omega
   have HL:Hid (∀(X:World) (g:Nat),X.heap.size=g->NIn .u64 (X.alloc (.cells #[.int .u64 1129074503,.int .u64 0,.int .u64 seq,.int .u64 (n:Int)] 45)) (some ⟨g,0,none⟩) 4 (hdV seq n)):=Q02 (J4 H) (by have:=HG.out;unfold Qai;omega);have HP:Hid ((Qan hdW (hdV seq n)).length=18):=Qco seq n;clear hpg hbl it1 r1 bl1 hV1 s1 hmk HW hm;go_region_held3 (λ X=>X.cell? ⟨q,0,none⟩=some (.int .u64 seq)/\X.cell? ⟨q,1,none⟩=some (.slice A n C)) (first | exact ⟨c0,c1⟩ | exact ⟨g0 _,g1 _⟩ | exact ⟨i0 _ _,i1 _ _⟩ | exact ⟨p0,p1⟩)
    (first
    | (go_simp;go_at_call 258;refine (Qqf _).mono ?_;rintro e W1 ⟨rfl,rfl⟩)
    | (go_simp;go_at_call 257;refine (Qu8 (B:=q+1) H1.out.1 rfl (by first | exact (Qoh rfl).alloc _ | exact Qoh (by simp)) (by first | exact HL.out _ _ (by simp) | exact (HL.out _ _ rfl).alloc _) (by rw [HP.out];have:=HG.out;omega) (by have:=HG.out;omega) (by have:=HG.out;omega) (by omega) (by omega) (by omega) (by omega)).mono ?_;rintro e w2 ⟨rfl,pg2,b2,_⟩;have r2:=(J2 H1).below b2 (by omega);have p0:w2.cell? ⟨q,0,none⟩=some (.int .u64 seq):=r2.cell 0;have p1:w2.cell? ⟨q,1,none⟩=some (.slice A n C):=r2.cell 1))
   all_goals (
    have H2:Hid (Pg w2 (q+2) (q+1) N 18 (pgL seq xs N 0)/\Below (q+1) V1 w2):=by
     refine ⟨?_,b2⟩
     have e:=Q0h seq xs N (by have:=HG.out;omega);rw [HP.out] at pg2;have en:hdB seq (xs.length:Nat)=Qan hdW (hdV seq n):=by rw [(J5 H).1];rfl
     rw [en] at e;rw [e] at pg2;exact pg2
    clear pg2 b2 r2 c0 c1 g0 g1 i0 i1 p0 HL HP hnw;go_wp2
    go_loopw [36] (λ x wr=>∃i:Nat,x=.int .i64 i/\i<=n/\Pg wr (q+2) (q+1) N (18+19*i) (pgL seq xs N i)/\Below (q+1) V1 wr/\∀y∈xs.take i,Qci y) (λ x _=>n - (intOf x).toNat)
    case atStart=>exact ⟨0,rfl,Nat.zero_le _,H2.out.1,H2.out.2,by simp⟩
    case round=>
     obtain ⟨i,rfl,hi,pg,bl,hri⟩:=hrel;have hV1:V1.heap.size<=wr.heap.size:=bl.size;have hpl:=H1.out.1.hp.lt;have blw:Below w.heap.size w wr:=(J3 H1).trans (bl.mono (by rw [<-(Jz5 H)];omega));rcases Nat.lt_or_ge i n with hlt | hge
     ·obtain ⟨x,hx⟩:∃x,xs[i]?=some x:=⟨xs[i]'(by have:=(J5 H).1;omega),by simp⟩
      have hxf:=(J5 H).2.2.1 x (List.mem_of_getElem? hx);obtain ⟨b',off,hA,hc⟩:=((J5 H).below blw).2.2.2.resolve_left (by omega);subst hA;have d0:wr.cell? ⟨b',off+i*5,none⟩=some (.int .u32 x.t):=hc i x hx 0 _ rfl;have d1:wr.cell? ⟨b',off+i*5+1,none⟩=some (.int .u64 x.b):=hc i x hx 1 _ rfl;have d2:wr.cell? ⟨b',off+i*5+2,none⟩=some (.int .u8 x.k):=hc i x hx 2 _ rfl;have d3:wr.cell? ⟨b',off+i*5+3,none⟩=some (.int .u32 x.s):=hc i x hx 3 _ rfl;have d4:wr.cell? ⟨b',off+i*5+4,none⟩=some (.int .u16 x.e):=hc i x hx 4 _ rfl;obtain ⟨qi,hqi⟩:∃qi,qi=wr.heap.size:=⟨_,rfl⟩
      have kb:Blk (wr.alloc (.cells #[.int .u32 x.t,.int .u64 x.b,.int .u8 x.k,.int .u32 x.s,.int .u16 x.e] 190)) qi (itL x) 190:=Blk.new' hqi.symm rfl;have pg7:=pg.alloc (.cells #[.int .u32 x.t,.int .u64 x.b,.int .u8 x.k,.int .u32 x.s,.int .u16 x.e] 190);have bl7:=bl.alloc (by omega:q+1<=wr.heap.size) (.cells #[.int .u32 x.t,.int .u64 x.b,.int .u8 x.k,.int .u32 x.s,.int .u16 x.e] 190);have blw7:=blw.alloc (by have:=(Jz5 H);omega:w.heap.size<=wr.heap.size) (.cells #[.int .u32 x.t,.int .u64 x.b,.int .u8 x.k,.int .u32 x.s,.int .u16 x.e] 190);have hi':(i:Int)<n:=by omega
      have hwi:IntKind.i64.wrap ((i:Int)+1)=(i:Int)+1:=by have:=HG.out;rw [IntKind.wrap_i64];omega
      have HX:Hid (xs[i]?=some x/\x.Fits/\(∀y∈xs.take i,Qci y)/\q+3<=wr.heap.size):=⟨hx,hxf,hri,by omega⟩
      clear hx hxf hri hc pg bl blw hV1 hpl;go_upto_region 8 with fail
      rw [<-hqi];generalize World.alloc wr _=W7 at kb pg7 bl7 blw7 ⊢;have H7:Hid (Blk W7 qi (itL x) 190/\Pg W7 (q+2) (q+1) N (18+19*i) (pgL seq xs N i)/\Below (q+1) V1 W7/\Below w.heap.size w W7/\q+3<=qi):=⟨kb,pg7,bl7,blw7,by have:=(Jz3 HX);omega⟩
      have k0:W7.cell? ⟨qi,0,none⟩=some (.int .u32 x.t):=kb.cell 0;have k1:W7.cell? ⟨qi,1,none⟩=some (.int .u64 x.b):=kb.cell 1;have k2:W7.cell? ⟨qi,2,none⟩=some (.int .u8 x.k):=kb.cell 2;have k3:W7.cell? ⟨qi,3,none⟩=some (.int .u32 x.s):=kb.cell 3;have k4:W7.cell? ⟨qi,4,none⟩=some (.int .u16 x.e):=kb.cell 4;clear kb pg7 bl7 blw7 d0 d1 d2 d3 d4 hqi;by_cases hr:Qci x
      ·have HR:Hid (Qci x):=hr
       clear hr;go_upto_region 10 with (go_at_call 259;refine (Qmx x _).mono ?_;rintro e W8 ⟨rfl,b8⟩;rw [decide_eq_true HR.out])
       have kb8:=H7.out.1.below b8 H7.out.1.lt;have H8:Hid (Blk W8 qi (itL x) 190/\Pg W8 (q+2) (q+1) N (18+19*i) (pgL seq xs N i)/\Below (q+1) V1 W8):=⟨kb8,(J2 H7).below b8,(J3 H7).trans (b8.mono (by have:=H7.out.1.lt;have:=(Jz4 H7);omega))⟩
       clear k0 k1 k2 k3 k4 b8;have c0:W8.cell? ⟨qi,0,none⟩=some (.int .u32 x.t):=kb8.cell 0;have c1:W8.cell? ⟨qi,1,none⟩=some (.int .u64 x.b):=kb8.cell 1;have c2:W8.cell? ⟨qi,2,none⟩=some (.int .u8 x.k):=kb8.cell 2;have c3:W8.cell? ⟨qi,3,none⟩=some (.int .u32 x.s):=kb8.cell 3;have c4:W8.cell? ⟨qi,4,none⟩=some (.int .u16 x.e):=kb8.cell 4;have g0:∀o,(W8.alloc o).cell? ⟨qi,0,none⟩=some (.int .u32 x.t):=λ o=>(kb8.alloc o).cell 0
       have g1:∀o,(W8.alloc o).cell? ⟨qi,1,none⟩=some (.int .u64 x.b):=λ o=>(kb8.alloc o).cell 1
       have g2:∀o,(W8.alloc o).cell? ⟨qi,2,none⟩=some (.int .u8 x.k):=λ o=>(kb8.alloc o).cell 2
       have g3:∀o,(W8.alloc o).cell? ⟨qi,3,none⟩=some (.int .u32 x.s):=λ o=>(kb8.alloc o).cell 3
       have g4:∀o,(W8.alloc o).cell? ⟨qi,4,none⟩=some (.int .u16 x.e):=λ o=>(kb8.alloc o).cell 4
       have i0:∀o p,((W8.alloc o).alloc p).cell? ⟨qi,0,none⟩=some (.int .u32 x.t):=λ o p=>((kb8.alloc o).alloc p).cell 0
       have i1:∀o p,((W8.alloc o).alloc p).cell? ⟨qi,1,none⟩=some (.int .u64 x.b):=λ o p=>((kb8.alloc o).alloc p).cell 1
       have i2:∀o p,((W8.alloc o).alloc p).cell? ⟨qi,2,none⟩=some (.int .u8 x.k):=λ o p=>((kb8.alloc o).alloc p).cell 2
       have i3:∀o p,((W8.alloc o).alloc p).cell? ⟨qi,3,none⟩=some (.int .u32 x.s):=λ o p=>((kb8.alloc o).alloc p).cell 3
       have i4:∀o p,((W8.alloc o).alloc p).cell? ⟨qi,4,none⟩=some (.int .u16 x.e):=λ o p=>((kb8.alloc o).alloc p).cell 4
       obtain ⟨u0,u2,u3,u4⟩:IntKind.u64.wrap x.t=x.t/\IntKind.u64.wrap x.k=x.k/\IntKind.u64.wrap x.s=x.s/\IntKind.u64.wrap x.e=x.e:=by
        obtain ⟨f0,_,f2,f3,f4⟩:=(J2 HX)
        unfold Qas at f0 f3;unfold Qaf at f2;unfold Qb4 at f4;simp only [IntKind.wrap_u64]
        omega
       have HL:Hid (∀(X:World) (g:Nat),X.heap.size=g->NIn .u64 (X.alloc (.cells #[.int .u64 x.t,.int .u64 x.b,.int .u64 x.k,.int .u64 x.s,.int .u64 x.e] 45)) (some ⟨g,0,none⟩) 5 (itV x)):=Q0w (J2 HX);have HP:Hid ((Qan itW (itV x)).length=19):=Qdd x;clear kb8;go_region_held3 (λ X=>X.cell? ⟨qi,0,none⟩=some (.int .u32 x.t)/\X.cell? ⟨qi,1,none⟩=some (.int .u64 x.b)/\X.cell? ⟨qi,2,none⟩=some (.int .u8 x.k)/\X.cell? ⟨qi,3,none⟩=some (.int .u32 x.s)/\X.cell? ⟨qi,4,none⟩=some (.int .u16 x.e)) (first | exact ⟨c0,c1,c2,c3,c4⟩ | exact ⟨g0 _,g1 _,g2 _,g3 _,g4 _⟩ | exact ⟨m0,m1,m2,m3,m4⟩ | exact ⟨i0 _ _,i1 _ _,i2 _ _,i3 _ _,i4 _ _⟩)
        (first
        | (go_simp;go_at_call 260;refine (Qlj _).mono ?_;rintro e W1 ⟨rfl,rfl⟩)
        | (go_simp;go_at_call 257;refine (Qu8 (B:=q+1) (J2 H8) rfl (by first | exact (Qn3 rfl).alloc _ | exact Qn3 (by simp)) (by first | exact HL.out _ _ (by simp) | exact (HL.out _ _ rfl).alloc _) (by rw [HP.out];have:=HG.out;omega) (by have:=HG.out;omega) (by have:=HG.out;omega) (by omega) (by omega) (by omega) (by omega)).mono ?_;rintro e w9 ⟨rfl,pg9,b9,f9⟩;have kb9:=Qq4 H8.out.1 (f9 qi H8.out.1.lt (by have:=(Jz4 H7);omega) (by have:=(Jz4 H7);omega));have m0:w9.cell? ⟨qi,0,none⟩=some (.int .u32 x.t):=kb9.cell 0;have m1:w9.cell? ⟨qi,1,none⟩=some (.int .u64 x.b):=kb9.cell 1;have m2:w9.cell? ⟨qi,2,none⟩=some (.int .u8 x.k):=kb9.cell 2;have m3:w9.cell? ⟨qi,3,none⟩=some (.int .u32 x.s):=kb9.cell 3;have m4:w9.cell? ⟨qi,4,none⟩=some (.int .u16 x.e):=kb9.cell 4))
       all_goals (
        have H9:Hid (Pg w9 (q+2) (q+1) N (18+19*(i+1)) (pgL seq xs N (i+1))/\Below (q+1) V1 w9/\∀y∈xs.take (i+1),Qci y):=by
         refine ⟨?_,(Jz2 H8).trans b9,?_⟩
         ·have e:=Q1f (seq:=seq) (N:=N) HX.out.1 (by have:=HG.out;omega)
          rw [HP.out] at pg9;unfold itB at e;rw [e] at pg9;exact pg9
         ·intro y hy
          rw [List.take_add_one,HX.out.1] at hy;rcases List.mem_append.1 hy with h | h
          ·exact (J3 HX) y h
          ·simp at h;rw [h];exact HR.out
        clear pg9 b9 f9 kb9 m0 m1 m2 m3 m4 c0 c1 c2 c3 c4 g0 g1 g2 g3 g4 i0 i1 i2 i3 i4 u0 u2 u3 u4 HL HP;go_wp2
        go_roundw
        case rel=>exact ⟨i+1,by simp,by omega,H9.out⟩
        case measure=>simp [intOf];omega)
      ·have HR:Hid (¬Qci x):=hr
       clear hr;go_wp2_with (go_at_call 259;refine (Qmx x _).mono ?_;rintro e W8 ⟨rfl,b8⟩;rw [decide_eq_false HR.out])
       exact ⟨rfl,(J4 H7).trans (b8.mono (J4 H7).size),.inl ⟨λ h=>HR.out (h.2.2 x (List.mem_of_getElem? HX.out.1)),rfl⟩⟩
     ·obtain rfl:i=n:=by omega
      have hxl:=(J5 H).1;obtain ⟨M,hM⟩:∃M,N=M+1:=⟨N - 1,by have:=HG.out;omega⟩
      have hMN:M<N:=by omega
      obtain ⟨⟨y,cy⟩,fy,pg1⟩:=pg.byte hMN 231;have hpage:(pgL seq xs N i).set M 231=Qbw seq xs N:=by
       have:=Q21 (seq:=seq) (xs:=xs) (N:=N) (by have:=HG.out;omega);rw [hxl] at this;rw [<-this];congr 1
       omega
      rw [hpage] at pg1;have c0:wr.cell? ⟨q+2,0,none⟩=some (.slice (some ⟨q+1,0,none⟩) N N):=pg.hp.cell 0;have hwM:IntKind.i64.wrap ((N:Int) - 1)=(M:Int):=by have:=HG.out;rw [IntKind.wrap_i64];omega
      have hM':(M:Int)<N:=by omega
      have HZ:Hid (GoodR xs (N:Int)/\Below (q+1) V1 wr/\Below w.heap.size w wr):=by
       refine ⟨⟨by have:=HG.out;omega,by have:=HG.out;omega,λ y hy=>hri y ?_⟩,bl,blw⟩
       rw [List.take_of_length_le (by omega)];exact hy
      clear hpage hri hxl hM hMN bl blw hV1 hpl pg;go_upto_region 13 with fail
      have b1:Below (q+1) wr (wr.setCell ⟨q+1,M,none⟩ (.int .u8 231)):=(Below.refl (q+1) wr).setCell (p:=⟨q+1,M,none⟩) (Nat.le_refl _) _;generalize World.setCell wr _ _=X1 at pg1 b1 ⊢;have c1:X1.cell? ⟨q+2,1,none⟩=some (.int .i64 ((18+19*i:Nat):Int)):=pg1.hp.cell 1;have f1:=pg1.hp.frozen 1;have pg2:=pg1.seek 4;have b2:Below (q+1) X1 (X1.setCell ⟨q+2,1,none⟩ (.int .i64 ((4:Nat):Int))):=(Below.refl (q+1) X1).setCell (p:=⟨q+2,1,none⟩) (by show q+1<=q+2;omega) _;clear c0 cy fy hwM hM';go_upto_region 14 with fail
      have b3:=b1.trans b2;have e4:((4:Nat):Int)=4:=rfl;rw [e4] at pg2 b3;clear b1 b2 e4 c1 f1 pg1;generalize World.setCell X1 _ _=X2 at pg2 b3 ⊢;have c0:∀o,(X2.alloc o).cell? ⟨q+2,0,none⟩=some (.slice (some ⟨q+1,0,none⟩) N N):=λ o=>(pg2.hp.alloc o).cell 0
      have hcr:=Qds Qsd (Qeu seq xs N);obtain ⟨K,hK⟩:∃K,K=crI 0 (Qbw seq xs N):=⟨_,rfl⟩
      rw [<-hK] at hcr;have hKw:IntKind.u64.wrap K=K:=by have:=hcr.1;have:=hcr.2;rw [IntKind.wrap_u64];omega
      have H2':Hid (Pg X2 (q+2) (q+1) N 4 (Qbw seq xs N)/\Below (q+1) wr X2/\K=crI 0 (Qbw seq xs N)/\Qas K):=⟨pg2,b3,hK,hcr⟩
      clear pg2 b3 hK hcr;go_wp2_with (go_at_call 206;refine (Qge (X2.heap.size+1) (some ⟨q+1,0,none⟩) N N 1 (Qbw seq xs N) _ (by rw [show X2.heap.size+1=(X2.alloc (.cells #[.int .i64 4] 3)).heap.size by simp,World.cell?_alloc_mark];rfl) (((H2'.out.1.bin (Qeu _ _ _) (by have:=HG.out;omega)).alloc _).alloc _)).mono ?_;rintro e W9 ⟨rfl,hw9⟩;replace hw9:=hw9.symm;subst hw9;rw [<-H2'.out.2.2.1])
      refine (Q07 (q+2) (q+1) N 4 (Qbw seq xs N) (some ⟨X2.heap.size,0,none⟩) 1 1 [4] (some ⟨X2.heap.size+1+1,0,none⟩) 1 1 [K] (q+1) _ (((H2'.out.1.alloc _).alloc _).alloc _) (((Qet 3 (L:=[4]) rfl rfl rfl rfl (by decide)).alloc _).alloc _) (Qdq 45 (by simp) rfl rfl (by intro z hz;simp only [List.mem_cons,List.not_mem_nil,or_false] at hz;subst hz;have:=H2'.out.2.2.2;unfold Qas at this;unfold Qai;omega) (by omega)) (by rw [Qos,Qac];have:=HG.out;omega) (by have:=HG.out;omega) (by have:=HG.out;omega) (by omega) (by omega) (by omega) (by omega)).mono ?_
      rintro e w9 ⟨rfl,pg9,b9,_⟩;have H9:Hid (Pg w9 (q+2) (q+1) N 8 (encL seq xs N)/\Below w.heap.size w w9):=by
       rw [Qos,Qac,H2'.out.2.2.1,Qed] at pg9;refine ⟨pg9,?_⟩
       have h1:=H2'.out.1.hp.lt;have hb:=(Jz2 HZ).trans (H2'.out.2.1.mono (by rw [<-(Jz5 H)];omega));have hsz:=hb.size;exact (((hb.alloc (by omega) _).alloc (by simp;omega) _).alloc (by simp;omega) _).trans (b9.mono (by rw [<-(Jz5 H)];omega))
      have c9:w9.cell? ⟨q+2,0,none⟩=some (.slice (some ⟨q+1,0,none⟩) N N):=pg9.hp.cell 0;clear pg9 b9 c0 hKw;go_wp2
      go_ret
      exact ⟨H9.out.2,.inr ⟨HZ.out.1,q+1,N,rfl,rfl,H9.out.1.own _ (by rw [<-(Jz5 H)];omega) (by have:=HG.out;omega)⟩⟩)
def Qea:ByteArray:=⟨#[114,101,99,58,32,116,104,101,32,98,108,111,99,107,32,105,115,32,110,111,32,114,101,99,111,114,100]⟩
def Q0p (g:Nat) (a:Option Addr) (n c:Nat) (xs ws:List Int) (w:World) (e:Ending) (w':World):Prop:=
 (offL ws<=n/\∃A k C w2,e=.returned (.slice A k C)/\Below w.heap.size w w2/\w'=w2.setCell ⟨g,0,none⟩ (Qcz a n c (offL ws))/\w2.ownsRow w.heap.size 45 1 (.slice A k C) k (Qaj .u64 (valL xs ws)))\/
 (n<offL ws/\e=Qdm Qea/\Below w.heap.size w w')
set_option maxHeartbeats 1000000 in
theorem Qoc (g:Nat) (a:Option Addr) (n c o:Nat) (xs:List Int) (b:Option Addr) (m d:Nat) (ws:List Int) (w:World) (ho:o=offL ws) (hg:w.cell? ⟨g,0,none⟩=some (.slice a n c)) (hz:w.frozen? ⟨g,0,none⟩=false) (hx:BIn w a n xs) (hnil:a=none->n=0/\c=0) (hnc:n<=c) (hy:NIn .i64 w b m ws) (hn:n<=100000) (hm:m<=1000) :
  Calls prog 266 #[.pointer (some ⟨g,0,none⟩),.int .i64 (o:Nat),.slice b m d] w (Q0p g a n c xs ws w):=by
 have hob:o<=8000:=by have:=Qom ws;have:=hy.1;omega
 have H:=Jh7 hx hy hnil hnc hg hz ho;clear hx hy hnil hnc hg hz ho;obtain ⟨M,hM⟩:∃M:Nat,M=min o n:=⟨_,rfl⟩
 have hM':(if n<o then (n:Int) else o)=M:=by rw [hM];split <;> omega
 have hMc:M<=c:=by have:=(J4 H);omega
 have hsl:=λ w=>Qee Tryz.underlying71 Tryz.one_bytes a n c M hMc w
 have hMn:M<=n:=by omega
 have eX:xs.take M=xs.take (offL ws):=by
  rw [<-(Jz6 H)];by_cases h:o<=n
  ·rw [hM,Nat.min_eq_left h]
  ·rw [hM,Nat.min_eq_right (by omega),List.take_of_length_le (by rw [H.out.1.1];exact Nat.le_refl _),List.take_of_length_le (by rw [H.out.1.1];omega)]
 have HM:=Jh3 eX hMn hMc;clear hM eX hMc hMn;have c0:=(J5 H)
 have cT:=Qus a M c (xs.take M) b m d ws w.drew ((H.out.1.n.front M (J2 HM)).b) (λ e=>by have:=(J3 H) e;have:=HM.out;omega) (Jz2 HM) (J2 H) (by have:=HM.out;omega) (by omega);have ed:decide (offL ws<=(xs.take (offL ws)).length)=decide (o<=n):=decide_eq_decide.2 (by rw [Qc5,<-(Jz6 H),H.out.1.1]);rw [HM.out.1,Qio,ed] at cT;clear ed;go_enter func266,ntmps266
 go_upto_region 1 with fail
 go_region_held3 (λ w'=>w'.cell? ⟨g,0,none⟩=some (.slice a n c)) (first | exact c0 | exact c2)
  (first | (go_simp;go_at_call 268;refine cT.mono ?_;rintro e w2 ⟨A,k,C,R,r,D,rfl,ow,-,bl⟩;have bl':Below w.heap.size w w2:=(Below.refl _ _).drew.trans bl;have c2:w2.cell? ⟨g,0,none⟩=some (.slice a n c):=by (rw [bl'.cell (Qaa c0)];exact c0)))
 have f2:w2.frozen? ⟨g,0,none⟩=false:=by rw [bl'.frozen (Qaa c0)];exact (J6 H)
 have HE:=Jh2 ow bl';clear ow bl cT bl' c0 hM' hsl;by_cases hen:o<=n
 ·rw [decide_eq_true hen]
  have hen':(o:Int)<=n:=by omega
  obtain ⟨A',eA⟩:∃A',.slice A' (n - o) (c - o)=Qcz a n c o:=⟨_,rfl⟩
  have hb:=λ w=>Qc6 Tryz.underlying71 Tryz.one_bytes a n c o hen w
  have hb':∀w:World,(Instr.slice 71 (.slice a n c) (some (.int .i64 (o:Int))) none none).run prog w=.ok (.slice A' (n - o) (c - o)) w:=λ w=>by rw [hb w,eA];rfl
  have HA:=Jh1 eA;clear eA hb;go_wp2
  go_ret
  refine .inl ⟨by rw [<-(Jz6 H)];exact hen,A,k,C,w2,rfl,HE.out.2,by rw [<-(Jz6 H),<-HA.out],?_⟩
  have:=HE.out.1;rwa [show Qcw xs ws=valL xs ws by unfold Qcw;rw [if_pos (by rw [<-(Jz6 H),H.out.1.1];exact hen)]] at this
 ·rw [decide_eq_false hen]
  go_wp2
  refine ⟨rfl,.inr ⟨by rw [<-(Jz6 H)];omega,rfl,HE.out.2⟩⟩
theorem Tryz.info_item:(prog.info? 190).map (·.size)=some 5:=by kernel_rfl
def it0:It:=⟨0,0,0,0,0⟩
set_option maxHeartbeats 1000000 in
theorem Q1v (b c:Nat) (x:It) (w:World) (c0:w.cell? ⟨b,0,none⟩=some (.int .u64 x.t)) (c1:w.cell? ⟨b,1,none⟩=some (.int .u64 x.b)) (c2:w.cell? ⟨b,2,none⟩=some (.int .u64 x.k)) (c3:w.cell? ⟨b,3,none⟩=some (.int .u64 x.s)) (c4:w.cell? ⟨b,4,none⟩=some (.int .u64 x.e)) (hr:x.Fits) :
  Calls prog 267 #[.slice (some ⟨b,0,none⟩) 5 c] w λ e w'=>e=.returned (.agg (itL x).toArray)/\Below w.heap.size w w':=by
 obtain ⟨q,hq⟩:∃q,q=w.heap.size:=⟨_,rfl⟩
 obtain ⟨t,bb,k,s,e⟩:=x;obtain ⟨⟨f0,f1⟩,_,⟨k0,k1⟩,⟨s0,s1⟩,⟨e0,e1⟩⟩:=hr;dsimp only at c0 c1 c2 c3 c4 f0 f1 k0 k1 s0 s1 e0 e1
 have u0:IntKind.u32.wrap t=t:=by rw [IntKind.wrap_u32];omega
 have u2:IntKind.u8.wrap k=k:=by rw [IntKind.wrap_u8];omega
 have u3:IntKind.u32.wrap s=s:=by rw [IntKind.wrap_u32];omega
 have u4:IntKind.u16.wrap e=e:=by rw [IntKind.wrap_u16];omega
 clear f0 f1 k0 k1 s0 s1 e0 e1;have b0:Blk (w.alloc (.cells #[.int .u32 0,.int .u64 0,.int .u8 0,.int .u32 0,.int .u16 0] 190)) q (itL it0) 190:=Blk.new' hq.symm rfl;have bw:Below q w (w.alloc (.cells #[.int .u32 0,.int .u64 0,.int .u8 0,.int .u32 0,.int .u16 0] 190)):=(Below.refl _ _).alloc (by omega) _;have HQ:=Jh1 hq;rw [<-hq];go_enter func267,ntmps267
 go_upto_region 1 with fail
 rw [<-hq];have bne:b≠q:=by have:=Qaa c0;have:=HQ.out;simp only at *;omega
 have c0':=(bw.cell (by rw [hq];exact Qaa c0)).trans c0;have c1':=(bw.cell (by rw [hq];exact Qaa c1)).trans c1;have c2':=(bw.cell (by rw [hq];exact Qaa c2)).trans c2;have c3':=(bw.cell (by rw [hq];exact Qaa c3)).trans c3;have c4':=(bw.cell (by rw [hq];exact Qaa c4)).trans c4;clear c0 c1 c2 c3 c4 hq;generalize hW:World.alloc w _=W at c0' c1' c2' c3' c4' b0 bw ⊢;clear hW;have e0:W.cell? ⟨q,0,none⟩=some (.int .u32 0):=b0.cell 0;have e1:W.cell? ⟨q,1,none⟩=some (.int .u64 0):=b0.cell 1;have e2:W.cell? ⟨q,2,none⟩=some (.int .u8 0):=b0.cell 2;have e3:W.cell? ⟨q,3,none⟩=some (.int .u32 0):=b0.cell 3;have e4:W.cell? ⟨q,4,none⟩=some (.int .u16 0):=b0.cell 4;have z0:=b0.frozen 0;have z1:=b0.frozen 1;have z2:=b0.frozen 2;have z3:=b0.frozen 3;have z4:=b0.frozen 4;have qne:q≠b:=λ e=>bne e.symm
 have HB:=Jh2 b0 bw;clear b0 bw;go_wp2
 go_region
 go_wp2
 have b3:Blk (((((W.setCell ⟨q,0,none⟩ (.int .u32 t)).setCell ⟨q,1,none⟩ (.int .u64 bb)).setCell ⟨q,2,none⟩ (.int .u8 k)).setCell ⟨q,3,none⟩ (.int .u32 s)).setCell ⟨q,4,none⟩ (.int .u16 e)).drew q (itL ⟨t,bb,k,s,e⟩) 190:=(HB.out.1.setAll (vs:=itL ⟨t,bb,k,s,e⟩) (by rfl)).drew;exact bodyPost_ret (v:=.agg (itL ⟨t,bb,k,s,e⟩).toArray) (Qap (p:=2) (ty:=190) rfl _ _ q _ _ _ rfl b3 Tryz.underlying190 rfl Tryz.info_item) rfl ⟨rfl,((((((HB.out.2.setCell (Nat.le_refl _) _).setCell (Nat.le_refl _) _).setCell (Nat.le_refl _) _).setCell (Nat.le_refl _) _).setCell (Nat.le_refl _) _)).drew⟩
section
def itC (xs:List It):List Value:=xs.flatMap itL
theorem Qtk (xs:List It):(itC xs).length=xs.length*5:=by
 induction xs with
 | nil=>rfl
 | cons x xs ih=>unfold itC at *;simp only [List.flatMap_cons,List.length_append,ih,List.length_cons];simp [itL];omega
theorem Qrw (xs:List It) (x:It):itC xs ++ itL x=itC (xs ++ [x]):=by simp [itC]
theorem Qwx:∀(xs:List It) (i:Nat) (x:It) (j:Nat),xs[i]?=some x->j<5->(itC xs)[i*5+j]?=(itL x)[j]?
 | [],i,x,j,h,_=>by simp at h
 | y :: xs,0,x,j,h,hj=>by
  simp at h;subst h
  unfold itC;rw [List.flatMap_cons,List.getElem?_append_left (by simp [itL];omega)];simp
 | y :: xs,i+1,x,j,h,hj=>by
  have ih:=Qwx xs i x j (by simpa using h) hj;unfold itC at *;rw [List.flatMap_cons,List.getElem?_append_right (by simp [itL];omega),<-ih];congr 1
  simp [itL]
  omega
theorem Tryz.zero_item:(prog.info? 190).map (λ i=>(i.zero,i.size,i.bytes))=some (some (.agg #[.int .u32 0,.int .u64 0,.int .u8 0,.int .u32 0,.int .u16 0]),5,32):=by kernel_rfl
theorem Quk (x:It):∀v∈itL x,v.oneCell'=true:=by intro v hv;simp only [itL,List.mem_cons,List.not_mem_nil,or_false] at hv;rcases hv with rfl | rfl | rfl | rfl | rfl <;> rfl
theorem Qls {W:World} {base:Nat} {a:Option Addr} {n c:Nat} {xs:List It} (h:W.ownsRow base 190 5 (.slice a n c) n (itC xs)) (hm:n<=maxLen) (hf:∀x∈xs,x.Fits):ItsIn W a n xs:=by
 have hl:xs.length=n:=by have:=h.1;rw [Qtk] at this;omega
 refine ⟨hl,hm,hf,?_⟩
 rcases h.2 with ⟨hv,hn⟩ | ⟨g,cap,cur,hv,hb,hg,hc,hcm,hsz,htake⟩
 ·exact .inl hn
 ·cases hv
  refine .inr ⟨g,0,rfl,λ i x hx j v hv=>?_⟩
  have hj:j<5:=(List.getElem?_eq_some_iff.1 hv).1;have hi:=(List.getElem?_eq_some_iff.1 hx).1;have hcl:=h.cells (g:=g) rfl (i*5+j) v (by rw [Qwx xs i x j hx hj];exact hv);rw [Addr.add_mid] at hcl;rw [Nat.add_assoc];exact hcl
theorem Qqy {W:World} {base:Nat} {a:Option Addr} {n c:Nat} {xs:List It} (h:W.ownsRow base 190 5 (.slice a n c) n (itC xs)) (x:It) (hle:n+1<=100000) (hb:base<=W.heap.size) :
  ∃a' c' w',(Builtin.append_ #[175,175] 175 #[.slice a n c,.slice (some ⟨W.heap.size,0,none⟩) 1 1]).run prog (W.alloc (.cells #[.int .u32 x.t,.int .u64 x.b,.int .u8 x.k,.int .u32 x.s,.int .u16 x.e] 190))=.ok (.slice a' (n+1) c') w'/\w'.ownsRow base 190 5 (.slice a' (n+1) c') (n+1) (itC (xs ++ [x]))/\Below base W w':=by
 obtain ⟨i0,hi,hz0,hz1,hz2⟩:=info_parts Tryz.zero_item;obtain ⟨v',w',hrun,hown',hgrow,_⟩:=run_append_own (P:=prog) (W.alloc (.cells (itL x).toArray 190)) base 175 175 190 i0 _ 5 32 Tryz.underlying175 hi hz0 hz1 hz2 rfl (by decide) _ n (itC xs) (h.alloc _) ⟨W.heap.size,0,none⟩ 1 1 (itL x) rfl (by
  intro j u hj;rw [Addr.add_mid,Nat.zero_add,World.cell?_alloc_mark];simpa using hj) (Quk x) (by unfold maxLen;omega) (by omega) (by simp;omega)
 rw [Qrw] at hown';obtain ⟨a',c',rfl⟩:∃a' c',v'=.slice a' (n+1) c':=by
  rcases hown'.2 with ⟨hv,hn⟩ | ⟨g,cap,cur,hv,_⟩
  ·omega
  ·exact ⟨_,_,hv⟩
 exact ⟨a',c',w',hrun,hown',((Below.refl base W).alloc hb _).grown hgrow (by simp;omega) (λ k hk=>(h.lt k hk).1)⟩
theorem Q0f (b c:Nat) (x:It) (w:World) (c0:w.cell? ⟨b,0,none⟩=some (.int .u64 x.t)) (c1:w.cell? ⟨b,1,none⟩=some (.int .u64 x.b)) (c2:w.cell? ⟨b,2,none⟩=some (.int .u64 x.k)) (c3:w.cell? ⟨b,3,none⟩=some (.int .u64 x.s)) (c4:w.cell? ⟨b,4,none⟩=some (.int .u64 x.e)) (hr:x.Fits) :
  Calls prog 267 #[.slice (some ⟨b,0,none⟩) 5 c] w λ e w'=>e=.returned (.agg #[.int .u32 x.t,.int .u64 x.b,.int .u8 x.k,.int .u32 x.s,.int .u16 x.e])/\Below w.heap.size w w':=Q1v b c x w c0 c1 c2 c3 c4 hr
structure RdSt (q:Nat) (w wr:World) (q5:Nat) (seq:Int) (A:Option Addr) (i C:Nat) (xs:List It) (L:Option Addr) (m c:Nat) (ys:List Int):Prop where
 res:Blk wr q [.int .u64 0,.slice none 0 0] 177
 left:Blk wr (q+1) [.slice L m c] 331
 rc:Blk wr q5 [.int .u64 seq,.slice A i C] 177
 own:wr.ownsRow (q5+1) 190 5 (.slice A i C) i (itC xs)
 bin:BIn w L m ys
 nil:L=none->m=0/\c=0
 cap:m<=c
 bel:Below q w wr
 lt:q+2<=q5
 heap:q=w.heap.size
section
variable {q:Nat} {w wr w':World} {q5:Nat} {seq:Int} {A:Option Addr} {i C:Nat} {xs:List It} {L:Option Addr} {m c:Nat} {ys:List Int}
theorem RdSt.below (h:RdSt q w wr q5 seq A i C xs L m c ys) (hb:Below wr.heap.size wr w'):RdSt q w w' q5 seq A i C xs L m c ys:=by
 have h1:=h.rc.lt;have h2:=h.lt;refine ⟨h.res.below hb h.res.lt,h.left.below hb h.left.lt,h.rc.below hb h1,?_,h.bin,h.nil,h.cap,h.bel.trans (hb.mono (by omega)),h2,h.heap⟩
 refine ⟨h.own.1,?_⟩
 rcases h.own.2 with h2 | ⟨g,cap,cur,hv,hbg,hg,hr⟩
 ·exact .inl h2
 ·exact .inr ⟨g,cap,cur,hv,hbg,by rw [hb.block g (Array.getElem?_eq_some_iff.1 hg).1];exact hg,hr⟩
theorem Qbj {base:Nat} {v:Value} {n:Nat} {zs:List Value} {a:Addr} (h:wr.ownsRow base 190 5 v n zs) (ha:a.block<base) (u:Value):(wr.setCell a u).ownsRow base 190 5 v n zs:=by
 refine ⟨h.1,?_⟩
 rcases h.2 with h2 | ⟨g,cap,cur,hv,hbg,hg,hr⟩
 ·exact .inl h2
 ·exact .inr ⟨g,cap,cur,hv,hbg,by rw [Below.heap_setCell _ _ _ _ (by omega)];exact hg,hr⟩
theorem RdSt.took (h:RdSt q w wr q5 seq A i C xs L m c ys) (k:Nat) (hk:k<=m):∃L',Qcz L m c k=.slice L' (m - k) (c - k)/\RdSt q w (wr.setCell ⟨q+1,0,none⟩ (.slice L' (m - k) (c - k))) q5 seq A i C xs L' (m - k) (c - k) (ys.drop k):=by
 have h2:=h.lt;refine ⟨_,rfl,h.res.set_other (by show q≠q+1;omega) _,h.left.set 0 _,h.rc.set_other (by show q5≠q+1;omega) _,Qbj h.own (by show q+1<q5+1;omega) _,(NIn.back h.bin.n k hk h.cap).b,Qjo hk h.nil,by have:=h.cap;omega,h.bel.setCell (by show q<=q+1;omega) _,h2,h.heap⟩
theorem RdSt.more {A':Option Addr} {C':Nat} {x:It} (h:RdSt q w wr q5 seq A i C xs L m c ys) (ho:w'.ownsRow (q5+1) 190 5 (.slice A' (i+1) C') (i+1) (itC (xs ++ [x]))) (hb:Below (q5+1) wr w'):RdSt q w (w'.setCell ⟨q5,1,none⟩ (.slice A' (i+1) C')) q5 seq A' (i+1) C' (xs ++ [x]) L m c ys:=by
 have h2:=h.lt;refine ⟨(h.res.below hb (by omega)).set_other (by show q≠q5;omega) _,(h.left.below hb (by omega)).set_other (by show q+1≠q5;omega) _,(h.rc.below hb (by omega)).set 1 _,Qbj ho (by show q5<q5+1;omega) _,h.bin,h.nil,h.cap,(h.bel.trans (hb.mono (by omega))).setCell (by show q<=q5;omega) _,h2,h.heap⟩
theorem RdSt.binr (h:RdSt q w wr q5 seq A i C xs L m c ys):BIn wr L m ys:=h.bin.below (by rw [<-h.heap];exact h.bel)
end
def RdOk (bs:List Int):Prop:=18<=bs.length/\rdM bs=1129074503/\18+19*(rdN bs).toNat<=bs.length
instance (bs:List Int):Decidable (RdOk bs):=by unfold RdOk;infer_instance
def Qii (q:Nat) (A:Option Addr) (n:Nat):Prop:=n≠0->∀y,A.map (·.block)=some y->q<=y
theorem Qn4 {w:World} {base s:Nat} {t:TypeId} {A:Option Addr} {n C:Nat} {xs:List Value} (h:w.ownsRow base t s (.slice A n C) n xs):Qii base A n:=by
 intro hn y hy;rcases h.2 with ⟨hv,h0⟩ | ⟨g,cap,cur,hv,hb,_⟩
 ·exact (hn h0).elim
 ·simp only [Value.slice.injEq] at hv
  rw [hv.1] at hy;simp only [Option.map_some,Option.some.injEq] at hy
  subst hy;exact hb
def Qhq (w:World) (bs:List Int) (e:Ending) (w':World):Prop:=
 Below w.heap.size w w'/\((¬RdOk bs/\e=Qdm Qea)\/(RdOk bs/\∃A n C,e=.returned (.agg #[.int .u64 (Qd6 bs),.slice A n C])/\ItsIn w' A n (Qb8 bs)/\Qii w.heap.size A n))
theorem Tryz.info_record:(prog.info? 177).map (·.size)=some 2:=by kernel_rfl
def DiedP (w:World) (bs:List Int) (e:Exit) (a:Act) (w':World):Prop:=e=.panic [{v:=.iface 9 (.string Qea),recovered:=false}]/\a.defers=[]/\Qhq w bs (Qdm Qea) w'
theorem DiedP.put {w:World} {bs:List Int} {e:Exit} {a:Act} {w':World} {v:Value} {d:Nat} (h:DiedP w bs e (a.put (some d) v) w'):DiedP w bs e a w':=h
set_option maxHeartbeats 4000000 in
theorem Qz7 (a:Option Addr) (n c:Nat) (bs:List Int) (w:World) (hx:BIn w a n bs) (hnil:a=none->n=0/\c=0) (hnc:n<=c) (hn:n<=100000) :
  Calls prog 227 #[.slice a n c] w (Qhq w bs):=by
 obtain ⟨q,hq⟩:∃q,q=w.heap.size:=⟨_,rfl⟩
 have r0:Blk ((w.alloc (.cells #[.int .u64 0,.slice none 0 0] 177)).alloc (.cells #[.slice a n c] 331)) q [.int .u64 0,.slice none 0 0] 177:=(Blk.new' hq.symm rfl).alloc _;have r1:Blk ((w.alloc (.cells #[.int .u64 0,.slice none 0 0] 177)).alloc (.cells #[.slice a n c] 331)) (q+1) [.slice a n c] 331:=Blk.new' (by simp [hq]) rfl;have bw:Below q w ((w.alloc (.cells #[.int .u64 0,.slice none 0 0] 177)).alloc (.cells #[.slice a n c] 331)):=((Below.refl _ _).alloc (by omega) _).alloc (by simp;omega) _;have H:=Jh4 hx hnil hnc hq;clear hx hnil hnc;go_enter func227,ntmps227
 go_upto_region 2 with fail
 rw [<-hq];clear hq;generalize hW:World.alloc (World.alloc w _) _=W at r0 r1 bw ⊢;have HW:=Jh3 r0 r1 bw;clear r0 r1 bw hW;go_wp2_with fail
 refine (Qqf W).mono ?_
 rintro e W1 ⟨rfl,rfl⟩;go_wp2_with fail
 have b1:Below W.heap.size W (W.alloc (.cells #[.int .i64 4,.int .i64 4,.int .i64 8,.int .i64 2] 3)):=(Below.refl _ _).alloc (Nat.le_refl _) _;have n1:=Qoh (w:=W) rfl;generalize hW1:World.alloc W _=W1 at n1 b1 ⊢;have l1:=(J2 HW).below b1 (J2 HW).lt;have bw1:=(Jz2 HW).trans (b1.mono (by have:=HW.out.1.lt;omega));refine (Qoc (q+1) a n c 18 bs (some ⟨W.heap.size,0,none⟩) 4 4 hdW W1 off_hd.symm (l1.cell 0) (l1.frozen 0) (H.out.1.below (by rw [<-(Jz3 H)];exact bw1)) (J2 H) (J3 H) n1 hn (by omega)).mono ?_
 rintro e W3 (⟨hen,A,k,C,W2,rfl,b2,rfl,ow⟩ | ⟨hfew,rfl,b2⟩);rotate_left
 ·have HB:Hid (Qhq w bs (Qdm Qea) W3):=⟨by rw [<-(Jz3 H)];exact bw1.trans (b2.mono (by have:=l1.lt;omega)),.inl ⟨λ h=>by have:=h.1;have:=H.out.1.1;rw [off_hd] at hfew;omega,rfl⟩⟩
  exact ⟨rfl,HB.out⟩
 rw [off_hd] at hen ⊢;rw [Q0y] at ow;have ow3:=ownsRow_setCell_below ow (a:=⟨q+1,0,none⟩) (by have:=l1.lt;show q+1<W1.heap.size;omega) (Qcz a n c 18);have hsz3:(W2.setCell ⟨q+1,0,none⟩ (Qcz a n c 18)).heap.size=W2.heap.size:=by simp [World.setCell]
 have res3:=((HW.out.1.below b1 HW.out.1.lt).below b2 (by have:=(HW.out.1.below b1 HW.out.1.lt).lt;exact this)).set_other (a:=⟨q+1,0,none⟩) (by show q≠q+1;omega) (Qcz a n c 18);have left3:=(l1.below b2 l1.lt).set 0 (Qcz a n c 18);have bel3:=(bw1.trans (b2.mono (by have:=l1.lt;omega))).setCell (p:=⟨q+1,0,none⟩) (by show q<=q+1;omega) (Qcz a n c 18);have hq2:q+2<=W2.heap.size:=by have:=l1.lt;have:=b2.size;omega
 generalize hW3:World.setCell W2 _ _=W3 at ow3 hsz3 res3 left3 bel3 ⊢;obtain ⟨g,rfl,hk,hg,hkC,hc⟩:=Qer ow3 (by simp);have hk4:k=4:=by simpa using hk
 subst hk4;have c0:W3.cell? ⟨g,0,none⟩=some (.int .u64 (rdM bs)):=hc 0 (by simp);have c2:W3.cell? ⟨g,2,none⟩=some (.int .u64 (Qd6 bs)):=hc 2 (by simp);have c3:W3.cell? ⟨g,3,none⟩=some (.int .u64 (rdN bs)):=hc 3 (by simp);have hNf:=Qqw H.out.1.2.2.1;have hIf:=Qly (rdN bs).toNat (ys:=bs.drop 18) (λ z hz=>H.out.1.2.2.1 z (List.mem_of_mem_drop hz));obtain ⟨M,hM⟩:∃M,M=rdM bs:=⟨_,rfl⟩
 obtain ⟨S,hS⟩:∃S,S=Qd6 bs:=⟨_,rfl⟩
 obtain ⟨N,hN⟩:∃N:Nat,rdN bs=N:=⟨(rdN bs).toNat,by have:=hNf.1;omega⟩
 rw [<-hM] at c0;rw [<-hS] at c2;rw [hN] at c3;have hNs:N<65536:=by have:=hNf.2;omega
 have H3:Hid (Blk W3 q [.int .u64 0,.slice none 0 0] 177/\Blk W3 (q+1) [Qcz a n c 18] 331/\Below q w W3/\q+2<=W3.heap.size):=⟨res3,left3,bel3,by rw [hsz3];exact hq2⟩
 have HF:Hid (M=rdM bs/\S=Qd6 bs/\(rdN bs).toNat=N/\Qb8 bs=rdL N (bs.drop 18)/\(∀x∈rdL N (bs.drop 18),x.Fits)/\bs.length=n):=⟨hM,hS,by omega,by unfold Qb8;rw [hN];rfl,by rw [hN] at hIf;exact hIf,H.out.1.1⟩
 clear ow ow3 hsz3 res3 left3 bel3 hq2 hW3 hk hg hkC hc hNf hIf hM hS hN b2 l1 bw1 n1 b1 hW1;by_cases hMm:M=1129074503
 ·have HM:=Jh1 hMm
  have hMb:(M != 1129074503)=false:=by rw [hMm];rfl
  obtain ⟨q5,hq5⟩:∃q5,q5=W3.heap.size:=⟨_,rfl⟩
  have b5:Below W3.heap.size W3 (W3.alloc (.cells #[.int .u64 S,.slice none 0 0] 177)):=(Below.refl _ _).alloc (Nat.le_refl _) _;have c35:(W3.alloc (.cells #[.int .u64 S,.slice none 0 0] 177)).cell? ⟨g,3,none⟩=some (.int .u64 (N:Int)):=(b5.cell (Qaa c3)).trans c3;have st0:∃L',Qcz a n c 18=.slice L' (n - 18) (c - 18)/\RdSt q w (W3.alloc (.cells #[.int .u64 S,.slice none 0 0] 177)) q5 S none 0 0 (rdL 0 (bs.drop 18)) L' (n - 18) (c - 18) (bs.drop 18):=
   ⟨_,rfl,H3.out.1.alloc _,(J2 H3).alloc _,Blk.new' hq5.symm rfl,World.ownsRow_nil _ _ _ _,(NIn.back H.out.1.n 18 hen (J3 H)).b,Qjo hen (J2 H),by have:=(J3 H);omega,(J3 H3).trans (b5.mono (by have:=(Jz3 H3);omega)),by rw [hq5];exact (Jz3 H3),(Jz3 H)⟩
  obtain ⟨L0,_,st0⟩:=st0;clear hMm b5;go_upto_region 6 with fail
  rw [<-hq5];generalize hW5:World.alloc W3 _=W5 at c35 st0 ⊢;have H5:=Jh1 st0;clear st0 c0 c2 c3 hq5 hW5 hMb;go_wp2
  go_loopw [22] (λ x wr=>∃(i:Nat) (A:Option Addr) (C:Nat) (L:Option Addr) (m c':Nat),x=.int .u64 i/\i<=N/\18+19*i+m=n/\RdSt q w wr q5 S A i C (rdL i (bs.drop 18)) L m c' (bs.drop (18+19*i))) (λ x _=>N - (intOf x).toNat)
  case atStart=>exact ⟨0,none,0,L0,n - 18,c - 18,rfl,Nat.zero_le _,by omega,H5.out⟩
  case round=>
   obtain ⟨i,A,C',L,m,c',rfl,hi,hmn,st⟩:=hrel;rcases Nat.lt_or_ge i N with hlt | hge
   ·have hi':(i:Int)<N:=by omega
    have hwi:IntKind.u64.wrap ((i:Int)+1)=(i:Int)+1:=by rw [IntKind.wrap_u64];omega
    have v1:wr.cell? ⟨q5,1,none⟩=some (.slice A i C'):=st.rc.cell 1;have v2:∀o,(wr.alloc o).cell? ⟨q5,1,none⟩=some (.slice A i C'):=λ o=>(st.rc.alloc o).cell 1
    have hST:=Jh2 st hmn;have hTk:Hid (∀(V:World) (b:Nat),V=(wr.alloc (.cells #[.int .i64 4,.int .i64 8,.int .i64 1,.int .i64 4,.int .i64 2] 3)).drew->b=wr.heap.size->Calls prog 266 #[.pointer (some ⟨q+1,0,none⟩),.int .i64 19,.slice (some ⟨b,0,none⟩) 5 5] V (Q0p (q+1) L m c' (bs.drop (18+19*i)) itW V)):=by
     intro V b hV hb;subst hb;have sV:RdSt q w V q5 S A i C' (rdL i (bs.drop 18)) L m c' (bs.drop (18+19*i)):=st.below (by rw [hV];exact ((Below.refl _ _).alloc (Nat.le_refl _) _).drew);exact Qoc (q+1) L m c' 19 _ _ 5 5 itW V off_it.symm (sV.left.cell 0) (sV.left.frozen 0) sV.binr sV.nil sV.cap (by rw [hV];exact (Qn3 rfl).drew) (by omega) (by omega)
    clear st;by_cases hm19:19<=m
    ·obtain ⟨X,hX⟩:∃X,X=rdI (bs.drop (18+19*i)):=⟨_,rfl⟩
     have hXf:X.Fits:=by rw [hX];exact Qlx (λ z hz=>H.out.1.2.2.1 z (List.mem_of_mem_drop hz))
     have HX:=Jh3 hX hXf hm19;have hnx:Hid (rdL (i+1) (bs.drop 18)=rdL i (bs.drop 18) ++ [X]):=by
      show _=_;rw [Qld,List.drop_drop,<-hX]
     clear hX hXf hm19;go_wp2
     go_region_law (first
      | (go_simp;go_at_call 260;refine (Qlj _).mono ?_;rintro e V1 ⟨rfl,rfl⟩)
      | (go_simp;go_at_call 266;refine (hTk.out _ _ rfl rfl).mono ?_;rintro e V3 (⟨_,A2,k2,C2,V2,rfl,b2,rfl,ow2⟩ | ⟨hfew,_,_⟩);rotate_left;(exact absurd (Jz2 HX) (by rw [off_it] at hfew;omega));rw [Q0o,<-HX.out.1] at ow2;rw [off_it];have stV:=(hST.out.1.below (((Below.refl _ _).alloc (Nat.le_refl _) _).drew.trans (b2.mono (by simp)))).took 19 (Jz2 HX);have ow3:=ownsRow_setCell_below ow2 (a:=⟨q+1,0,none⟩) (by have:=hST.out.1.rc.lt;have:=hST.out.1.lt;simp;omega) (Qcz L m c' 19);obtain ⟨L',eL,st3⟩:=stV;rw [eL] at ow3 ⊢;generalize World.setCell V2 _ _=V3 at st3 ow3 ⊢;obtain ⟨gN,eA,hk5,_,_,hcN⟩:=Qer ow3 (by simp [itV]);cases eA;have hk5':k2=5:=(by simpa [itV] using hk5);subst hk5';clear hk5;have n0:V3.cell? ⟨gN,0,none⟩=some (.int .u64 X.t):=hcN 0 (by simp [itV]);have n1:V3.cell? ⟨gN,1,none⟩=some (.int .u64 X.b):=hcN 1 (by simp [itV]);have n2:V3.cell? ⟨gN,2,none⟩=some (.int .u64 X.k):=hcN 2 (by simp [itV]);have n3:V3.cell? ⟨gN,3,none⟩=some (.int .u64 X.s):=hcN 3 (by simp [itV]);have n4:V3.cell? ⟨gN,4,none⟩=some (.int .u64 X.e):=hcN 4 (by simp [itV]);have m1:V3.cell? ⟨q5,1,none⟩=some (.slice A i C'):=st3.rc.cell 1)
      | (go_simp;go_at_call 267;refine (Q0f gN C2 X _ n0 n1 n2 n3 n4 (J2 HX)).mono ?_;rintro e V4 ⟨rfl,b4⟩;have st4:=st3.below b4;have m2:V4.cell? ⟨q5,1,none⟩=some (.slice A i C'):=st4.rc.cell 1;have m3:∀o,(V4.alloc o).cell? ⟨q5,1,none⟩=some (.slice A i C'):=λ o=>(st4.rc.alloc o).cell 1;obtain ⟨a9,c9,w9,e9,o9,b9⟩:=Qqy st4.own X (by omega) (by have:=st4.rc.lt;omega);have rc9:=st4.rc.below b9 (by omega);have m4:w9.cell? ⟨q5,1,none⟩=some (.slice A i C'):=rc9.cell 1;have m5:=rc9.frozen 1;have st9:=st4.more o9 b9)
      | (refine Qaq rfl (.tmp 25) (.tmp 29) 175 175 rfl _ _ rfl rfl _ _ e9 ?_))
     all_goals (
      have H9:Hid (RdSt q w (w9.setCell ⟨q5,1,none⟩ (.slice a9 (i+1) c9)) q5 S a9 (i+1) c9 (rdL (i+1) (bs.drop 18)) L' (m - 19) (c' - 19) (bs.drop (18+19*(i+1)))):=by
       rw [List.drop_drop,<-hnx.out] at st9;exact st9
      clear e9 o9 b9 rc9 m4 m5 st9 st4 b4 m2 m3 st3 ow3 ow2 b2 n0 n1 n2 n3 n4 m1 hcN v1 v2 eL;generalize World.setCell w9 _ _=V9 at H9 ⊢;go_wp2
      go_roundw
      case rel=>exact ⟨i+1,a9,c9,L',m - 19,c' - 19,by simp,by omega,by have:=(Jz2 HX);have:=hST.out.2;omega,H9.out⟩
      case measure=>simp [intOf];omega)
    ·have HN:Hid (¬RdOk bs/\m<19):=⟨λ h=>by
      have h1:=h.2.2;rw [(J3 HF),(Jz5 HF)] at h1;have:=hST.out.2;omega,by omega⟩
     clear hm19;have HPP:Hid (∀V3,Below (wr.alloc (.cells #[.int .i64 4,.int .i64 8,.int .i64 1,.int .i64 4,.int .i64 2] 3)).drew.heap.size (wr.alloc (.cells #[.int .i64 4,.int .i64 8,.int .i64 1,.int .i64 4,.int .i64 2] 3)).drew V3->Qhq w bs (Qdm Qea) V3):=λ V3 b2=>⟨by rw [<-(Jz3 H)];exact hST.out.1.bel.trans (((Below.refl _ _).alloc (by have:=hST.out.1.rc.lt;have:=hST.out.1.lt;omega) _).drew.trans (b2.mono (by have:=hST.out.1.rc.lt;have:=hST.out.1.lt;simp;omega))),.inl ⟨HN.out.1,rfl⟩⟩
     go_wp2
     refine Code.wp_mono (Q:=DiedP w bs) ?_ ?_
     ·rintro e ⟨tmps,defers⟩ w' ⟨rfl,h2,h3⟩
      dsimp only at h2
      subst h2;exact ⟨rfl,h3⟩
     ·refine wp_region_held_drew (S:=λ V=>V.cell? ⟨q5,1,none⟩=some (.slice A i C')) (by kernel_rfl) (by exact v1) (λ hS=>?_)
      refine wpAnyH_take (i:=0) (oi:={dst:=some 24,op:=Op.fieldAddr 177 (Operand.tmp 5) 1,type:=0,pos:="rec.go:146",after:=#[],guard:=none}) (v:=.pointer (some ⟨q5,1,none⟩)) rfl (by kernel_rfl) (by kernel_rfl) (by kernel_rfl) (λ _ _ _ h=>DiedP.put h) (Or.inl ⟨by rfl,λ w hw=>by go_simp⟩) hS ?_
      simp only [Act.put,List.setIfInBounds_toArray,List.set_cons_zero,List.set_cons_succ]
      refine wpAnyH_take (i:=1) (oi:={dst:=some 25,op:=Op.load 175 (Operand.tmp 24),type:=175,pos:="rec.go:146",after:=#[{on:=0,ground:=Ground.data}],guard:=none}) (v:=.slice A i C') rfl (by kernel_rfl) (by kernel_rfl) (by kernel_rfl) (λ _ _ _ h=>DiedP.put h) (Or.inl ⟨by rfl,λ w hw=>by go_simp⟩) hS ?_
      simp only [Act.put,List.setIfInBounds_toArray,List.set_cons_zero,List.set_cons_succ]
      refine wpAnyH_ready (rs:=[2]) (by kernel_rfl) (by simp) (AllReadyH.cons (o:={dst:=some 26,op:=Op.call {callee:=Callee.value (Operand.func 260),args:=#[],argTypes:=#[]},type:=103,pos:="rec.go:146",after:=#[],guard:=none}) rfl (λ KK hK=>?_) AllReadyH.nil)
      go_simp
      refine (Qlj _).mono ?_
      rintro e V1 ⟨rfl,rfl⟩;refine hK.out _ _ (by exact v2 _) (λ hS'=>?_)
      clear hK KK hS';refine wpAnyH_ready (rs:=[3]) (by kernel_rfl) (by simp) (AllReadyH.cons (o:={dst:=some 27,op:=Op.call {callee:=Callee.value (Operand.func 266),args:=#[Operand.tmp 3,Operand.const (Value.int IntKind.i64 19),Operand.tmp 26],argTypes:=#[331,3,103]},type:=46,pos:="rec.go:146",after:=#[{on:=2,ground:=Ground.data},{on:=2,ground:=Ground.chain}],guard:=none}) rfl (λ KK hK=>?_) AllReadyH.nil)
      go_simp
      refine (hTk.out _ _ rfl rfl).mono ?_
      rintro e V3 (⟨hen2,_⟩ | ⟨_,he,b2⟩)
      ·exact absurd HN.out.2 (by rw [off_it] at hen2;omega)
      ·unfold Qdm at he
       subst he;exact ⟨rfl,rfl,HPP.out V3 b2⟩
   ·obtain rfl:i=N:=by omega
    have k0:wr.cell? ⟨q5,0,none⟩=some (.int .u64 S):=st.rc.cell 0;have k1:wr.cell? ⟨q5,1,none⟩=some (.slice A i C'):=st.rc.cell 1;have d0:wr.cell? ⟨q,0,none⟩=some (.int .u64 0):=st.res.cell 0;have d1:wr.cell? ⟨q,1,none⟩=some (.slice none 0 0):=st.res.cell 1;have z0:=st.res.frozen 0;have z1:=st.res.frozen 1;have hlt5:=st.lt;have bR:Blk ((wr.setCell ⟨q,0,none⟩ (.int .u64 S)).setCell ⟨q,1,none⟩ (.slice A i C')) q [.int .u64 S,.slice A i C'] 177:=(st.res.set 0 _).set 1 _;have oR:((wr.setCell ⟨q,0,none⟩ (.int .u64 S)).setCell ⟨q,1,none⟩ (.slice A i C')).ownsRow (q5+1) 190 5 (.slice A i C') i (itC (rdL i (bs.drop 18))):=Qbj (Qbj st.own (by show q<q5+1;omega) _) (by show q<q5+1;omega) _;have bel9:=(st.bel.setCell (p:=⟨q,0,none⟩) (Nat.le_refl _) (.int .u64 S)).setCell (p:=⟨q,1,none⟩) (Nat.le_refl _) (.slice A i C');have HZ:Hid (Blk ((wr.setCell ⟨q,0,none⟩ (.int .u64 S)).setCell ⟨q,1,none⟩ (.slice A i C')) q [.int .u64 S,.slice A i C'] 177/\Qhq w bs (.returned (.agg #[.int .u64 S,.slice A i C'])) ((wr.setCell ⟨q,0,none⟩ (.int .u64 S)).setCell ⟨q,1,none⟩ (.slice A i C'))):=by
     refine ⟨bR,by rw [<-(Jz3 H)];exact bel9,.inr ⟨⟨by rw [(Jz5 HF)];exact hen,HF.out.1.symm.trans HM.out,by rw [(J3 HF),(Jz5 HF)];omega⟩,A,i,C',by rw [(J2 HF)],?_⟩⟩
     rw [(J4 HF)];refine ⟨Qls oR (by unfold maxLen;omega) (J5 HF),λ hn y hy=>?_⟩
     have h1:=Qn4 oR hn y hy;have h2:=(Jz3 H)
     show w.heap.size<=y;omega
    clear bR oR bel9 st hmn;go_wp2
    exact bodyPost_ret (Qap (p:=2) (ty:=177) rfl _ _ q _ _ _ rfl HZ.out.1 Tryz.underlying177 rfl Tryz.info_record) rfl HZ.out.2
 ·have hMb:(M != 1129074503)=true:=by simp [hMm]
  have HB:Hid (Qhq w bs (Qdm Qea) W3):=⟨by rw [<-(Jz3 H)];exact (J3 H3),.inl ⟨λ h=>hMm (HF.out.1.trans h.2.1),rfl⟩⟩
  clear hMm;go_wp2
  exact ⟨rfl,HB.out⟩
end
end Go.Proofs.YtcdnjeiamihhbaaGreat

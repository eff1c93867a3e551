/- P11 -/
import Derived.Test.YtcdnjeiamihhbaaGreatP9
set_option linter.unusedVariables false
set_option maxRecDepth 4000
open Go.Proofs.Tryz
namespace Go.Proofs.YtcdnjeiamihhbaaGreat
open Go.RowKit
set_option maxHeartbeats 1000000 in
theorem Qtu (b:Int) (w:World):Calls prog 234 #[.int .i64 b] w λ e w'=>e=.returned (.int .i64 (Qdx b))/\w'=w:=by
 obtain ⟨R,hR⟩:∃R,R=Qdx b:=⟨_,rfl⟩
 rw [<-hR];have HR:=Jh1 hR;clear hR;go_enter func234,ntmps234
 go_wp2
 go_loopw [3] (λ x wr=>∃k:Nat,x=.int .i64 (pwR k)/\k<=7/\wr=w/\∀j,j<k->b≠pwR j) (λ x _=>(4097 - intOf x).toNat)
 case atStart=>exact ⟨0,rfl,by omega,rfl,by simp⟩
 case round=>
  obtain ⟨k,rfl,hk,rfl,hno⟩:=hrel;rcases Nat.lt_or_ge k 7 with hlt | hge
  ·obtain ⟨_,p1,p2,p3⟩:=Qp8 ⟨k,hlt⟩
   dsimp only at p1 p2 p3
   obtain ⟨P,hP⟩:∃P,P=pwR k:=⟨_,rfl⟩
   have HP:=Jh3 hP p3 hno;rw [<-hP] at p1 p2 ⊢;have hw:IntKind.i64.wrap (2*P)=2*P:=by rw [IntKind.wrap_i64];omega
   clear hP p3 hno;by_cases hb:P=b
   ·have hf:R=(b - 27) / 16:=by rw [HR.out];unfold Qdx;rw [if_pos (Qmd.2 ⟨k,hlt,by rw [<-HP.out.1,hb]⟩)]
    have hw2:IntKind.i64.wrap (b - 27)=b - 27:=by rw [IntKind.wrap_i64];omega
    clear HR HP hw;subst hb;subst hf;go_wp2
    go_ret
    exact ⟨rfl,rfl⟩
   ·have hb':(P == b)=false:=by simp [hb]
    have HN:=Jh1 hb;clear hb;go_wp2
    go_roundw
    case rel=>
     refine ⟨k+1,by rw [(J2 HP),<-HP.out.1],by omega,by first | rfl | trivial,λ j hj=>?_⟩
     rcases Nat.lt_or_ge j k with h | h
     ·exact (Jz2 HP) j h
     ·obtain rfl:j=k:=by omega
      exact λ e=>HN.out (by rw [HP.out.1,e])
    case measure=>simp [intOf];omega
  ·obtain rfl:k=7:=by omega
   have hf:R=0:=by
    rw [HR.out];unfold Qdx;rw [if_neg];intro h;obtain ⟨j,hj,e⟩:=Qmd.1 h;exact hno j hj e
   have hp:pwR 7=8192:=by decide
   rw [hp];clear HR hno;subst hf;go_wp2
   go_ret
   exact ⟨rfl,rfl⟩
theorem Qeq {w:World} {a:Option Addr} {n:Nat} {xs:List Pl} (h:KIn w a n xs) {i:Nat} (hi:i<n):∃b off x,a=some ⟨b,off,none⟩/\xs[i]?=some x/\w.cell? ⟨b,off+i*4,none⟩=some (.int .u32 x.1.1)/\w.cell? ⟨b,off+i*4+1,none⟩=some (.int .u64 x.1.2)/\w.cell? ⟨b,off+i*4+2,none⟩=some (.int .i64 x.2.1)/\w.cell? ⟨b,off+i*4+3,none⟩=some (.int .i64 x.2.2):=by
 obtain ⟨x,hx⟩:∃x,xs[i]?=some x:=⟨xs[i]'(by have:=h.1;omega),by simp⟩
 obtain ⟨b,off,ha,hc⟩:=h.2.2.2.resolve_left (by omega);exact ⟨b,off,x,ha,hx,hc i x hx 0 _ rfl,hc i x hx 1 _ rfl,hc i x hx 2 _ rfl,hc i x hx 3 _ rfl⟩
def UpR (ps:List Pl) (i:Nat):Prop:=∀k p q,k+1<i->ps[k]?=some p->ps[k+1]?=some q->ltP p.1 q.1=true
theorem UpR.next {ps:List Pl} {i:Nat} {o x:Pl} (h:UpR ps (i+1)) (ho:ps[i]?=some o) (hx:ps[i+1]?=some x) (hl:ltP o.1 x.1=true):UpR ps (i+2):=by
 intro k p q hk hp hq;rcases Nat.lt_or_ge (k+1) (i+1) with h' | h'
 ·exact h k p q h' hp hq
 ·obtain rfl:k=i:=by omega
  rw [ho] at hp;rw [hx] at hq;cases hp;cases hq;exact hl
set_option maxHeartbeats 1000000 in
theorem Qk4 (A:Option Addr) (n C:Nat) (ps:List Pl) (w:World) (hk:KIn w A n ps):Calls prog 233 #[.slice A n C] w λ e w'=>∃b:Bool,e=.returned (.bool b)/\(b=true↔Qpl ps)/\Below w.heap.size w w':=by
 have H:=Jh1 hk;have hm:n<=9223372036854775807:=by have:=hk.2.1;unfold maxLen at this;omega
 clear hk;go_enter func233,ntmps233
 go_wp2
 go_loopw [3] (λ x wr=>∃i:Nat,x=.int .i64 i/\1<=i/\(i<=n\/i=1)/\Below w.heap.size w wr/\UpR ps i) (λ x _=>n - (intOf x).toNat)
 case atStart=>exact ⟨1,rfl,Nat.le_refl _,.inr rfl,Below.refl _ _,λ k p q h=>by omega⟩
 case round=>
  obtain ⟨i,rfl,h1,hi,bl,hup⟩:=hrel;rcases Nat.lt_or_ge i n with hlt | hge
  ·obtain ⟨j,hj⟩:∃j,i=j+1:=⟨i - 1,by omega⟩
   obtain ⟨b',off,x,hA,hx,d0,d1,d2,d3⟩:=Qeq (H.out.below bl) hlt;obtain ⟨b2,off2,o,hA2,ho,p0,p1,p2,p3⟩:=Qeq (H.out.below bl) (i:=j) (by omega);subst hA;cases hA2
   have hi':(i:Int)<n:=by omega
   have hjn:(j:Int)<n:=by omega
   have hwj:IntKind.i64.wrap ((i:Int) - 1)=(j:Int):=by rw [IntKind.wrap_i64];omega
   have hwi:IntKind.i64.wrap ((i:Int)+1)=(i:Int)+1:=by rw [IntKind.wrap_i64];omega
   have HX:=Jh5 ho hx hj bl hup;clear ho hx hj bl hup;obtain ⟨qi,hqi⟩:∃qi,qi=wr.heap.size:=⟨_,rfl⟩
   have HA:Hid (Blk (wr.alloc (.cells #[.int .u32 o.1.1,.int .u64 o.1.2,.int .i64 o.2.1,.int .i64 o.2.2] 137)) qi (plL o) 137/\Below w.heap.size w (wr.alloc (.cells #[.int .u32 o.1.1,.int .u64 o.1.2,.int .i64 o.2.1,.int .i64 o.2.2] 137))):=⟨Blk.new' hqi.symm rfl,(J4 HX).alloc (J4 HX).size _⟩
   go_upto_region 5 with fail
   rw [<-hqi];generalize World.alloc wr _=W1 at HA ⊢;clear d0 d1 d2 d3 p0 p1 p2 p3 hqi;obtain ⟨b3,off3,x3,hA3,hx3,d0,d1,d2,d3⟩:=Qeq (H.out.below HA.out.2) hlt;cases hA3
   obtain rfl:x3=x:=by rw [(J2 HX)] at hx3;exact (Option.some.inj hx3).symm
   clear hx3;obtain ⟨qj,hqj⟩:∃qj,qj=W1.heap.size:=⟨_,rfl⟩
   have HB:Hid (Blk (W1.alloc (.cells #[.int .u32 x3.1.1,.int .u64 x3.1.2,.int .i64 x3.2.1,.int .i64 x3.2.2] 137)) qi (plL o) 137/\Blk (W1.alloc (.cells #[.int .u32 x3.1.1,.int .u64 x3.1.2,.int .i64 x3.2.1,.int .i64 x3.2.2] 137)) qj (plL x3) 137/\Below w.heap.size w (W1.alloc (.cells #[.int .u32 x3.1.1,.int .u64 x3.1.2,.int .i64 x3.2.1,.int .i64 x3.2.2] 137))):=⟨HA.out.1.alloc _,Blk.new' hqj.symm rfl,HA.out.2.alloc HA.out.2.size _⟩
   go_upto_region 6 with fail
   rw [<-hqj];generalize World.alloc W1 _=W2 at HB ⊢;clear d0 d1 d2 d3 hqj HA;have k0:W2.cell? ⟨qi,0,none⟩=some (.int .u32 o.1.1):=HB.out.1.cell 0;have k1:W2.cell? ⟨qi,1,none⟩=some (.int .u64 o.1.2):=HB.out.1.cell 1;have g0:W2.cell? ⟨qj,0,none⟩=some (.int .u32 x3.1.1):=(J2 HB).cell 0;have g1:W2.cell? ⟨qj,1,none⟩=some (.int .u64 x3.1.2):=(J2 HB).cell 1;have hno:Hid (ltP o.1 x3.1=false->¬Qpl ps):=by
    intro h hr;have:=hr j o x3 HX.out.1 (by rw [<-(J3 HX)];exact (J2 HX));rw [h] at this;cases this
   have hyes:Hid (ltP o.1 x3.1=true->UpR ps (i+1)):=by
    intro h;have h1:=HX.out;obtain ⟨e1,e2,rfl,_,e5⟩:=h1;exact e5.next e1 e2 h
   by_cases t1:x3.1.1<o.1.1
   ·have f1:decide (x3.1.1<o.1.1)=true:=by simp [t1]
    have HN:Hid (¬Qpl ps):=hno.out (by unfold ltP;simp;omega);clear t1 hno hyes;go_wp2
    go_ret
    exact ⟨false,rfl,by simp [HN.out],(Jz2 HB)⟩
   have f1:decide (x3.1.1<o.1.1)=false:=by simp;omega
   by_cases t2:o.1.1=x3.1.1
   ·have f2:(o.1.1 == x3.1.1)=true:=by simp [t2]
    by_cases t3:x3.1.2<=o.1.2
    ·have f3:decide (x3.1.2<=o.1.2)=true:=by simp [t3]
     have HN:Hid (¬Qpl ps):=hno.out (by unfold ltP;simp;omega);clear t1 t2 t3 hno hyes;go_wp2
     go_ret
     exact ⟨false,rfl,by simp [HN.out],(Jz2 HB)⟩
    ·have f3:decide (x3.1.2<=o.1.2)=false:=by simp;omega
     have HN:Hid (UpR ps (i+1)):=hyes.out (by unfold ltP;simp;omega);clear t1 t2 t3 hno hyes;go_wp2
     go_roundw
     case rel=>exact ⟨i+1,by simp,by omega,.inl (by omega),(Jz2 HB),HN.out⟩
     case measure=>simp [intOf];omega
   ·have f2:(o.1.1 == x3.1.1)=false:=by simp [t2]
    have HN:Hid (UpR ps (i+1)):=hyes.out (by unfold ltP;simp;omega);clear t1 t2 hno hyes;go_wp2
    go_roundw
    case rel=>exact ⟨i+1,by simp,by omega,.inl (by omega),(Jz2 HB),HN.out⟩
    case measure=>simp [intOf];omega
  ·have hi':¬(i:Int)<n:=by omega
   have HN:Hid (Qpl ps/\Below w.heap.size w wr):=by
    refine ⟨λ k p q hp hq=>hup k p q ?_ hp hq,bl⟩
    have:=(List.getElem?_eq_some_iff.1 hq).1;rw [H.out.1] at this;omega
   clear bl hup;go_wp2
   go_ret
   exact .inr ⟨rfl,HN.out.1,HN.out.2⟩
theorem Qgf {w:World} {base:Nat} {a:Option Addr} {n c:Nat} {zs:List Value} (h:w.ownsRow base 5 1 (.slice a n c) n zs) (hn:0<n):∃g,a=some ⟨g,0,none⟩/\base<=g/\g<w.heap.size:=by
 rcases h.2 with ⟨_,hz⟩ | ⟨g,cap,cur,hv,hbg,hg,_⟩
 ·omega
 ·cases hv
  refine ⟨g,rfl,hbg,?_⟩
  rcases Nat.lt_or_ge g w.heap.size with h | h
  ·exact h
  ·rw [Array.getElem?_eq_none h] at hg;cases hg
theorem Qv3 (L:List Int) (i:Nat) (z:Int):(u8s L).set i (.int .u8 z)=u8s (L.set i z):=by simp [u8s,List.map_set]
def Q0b:Value->Nat | .slice _ n _=>n | _=>0
theorem Qrx:∀z∈[(0:Int)],Qaf z:=by intro z hz;simp at hz;subst hz;unfold Qaf;omega
theorem Qqe:∀z∈[(231:Int)],Qaf z:=by intro z hz;simp at hz;subst hz;unfold Qaf;omega
theorem Qil {p S:List Int} {j:Nat} (hp:8<=p.length) (hS:S.length=4) (hj:j<4):(splice p 4 (S.take j)).set (4+j) (S.getD j 0)=splice p 4 (S.take (j+1)):=by
 match S,hS with
 | [a,b,c,d],_=>
  match p,hp with
  | x0 :: x1 :: x2 :: x3 :: x4 :: x5 :: x6 :: x7 :: r,_=>
   have h:j=0\/j=1\/j=2\/j=3:=by omega
   rcases h with rfl | rfl | rfl | rfl <;> simp [splice]
theorem Q3x {N k:Nat} {i m seq:Int} {pt:List Pl} {L:Nat} (hL:pt.length=L) (h:N=26+16*L+k+1):(hkB i m seq L ++ plsB pt ++ List.replicate k 0) ++ [231]=ckP N i m seq pt:=by
 subst hL;have e:N - 1 - (26+16*pt.length)=k:=by omega
 unfold ckP Qk5;rw [e]
def Qgy (w:World) (s:Sh) (seq:Int) (ps:List Pl) (e:Ending) (w':World):Prop:=
 ∃v,e=.returned (.tuple #[v,.int .i64 (ckE s ps)])/\RowAt (λ j=>w.heap.size<=j) w' v (ckO s seq ps)/\Below w.heap.size w w'
theorem Qfc {w V:World} {s:Sh} {seq:Int} {ps:List Pl} {E:Int} (h:ckE s ps=E) (h0:E≠0) (hb:Below w.heap.size w V):Qgy w s seq ps (.returned (.tuple #[.slice none 0 0,.int .i64 E])) V:=by
 refine ⟨_,by rw [h],?_,hb⟩
 unfold ckO;rw [if_neg (by rw [h];exact h0)];exact RowAt.nil _ _
set_option maxHeartbeats 4000000 in
theorem Qju (s:Sh) (seq:Int) (A:Option Addr) (n C:Nat) (ps:List Pl) (w:World) (hz:-9223372036854775808<=s.z) (hs:Qai seq) (hk:KIn w A n ps) (hn:n<=100000000) :
  Calls prog 175 #[.agg (shL s).toArray,.agg #[.int .u64 seq,.slice A n C]] w (Qgy w s seq ps):=by
 obtain ⟨q,hq⟩:∃q,q=w.heap.size:=⟨_,rfl⟩
 have HW:Hid (Blk ((w.alloc (.cells #[.int .i64 s.z,.int .i64 s.zb,.int .i64 s.b,.int .i64 s.r] 23)).alloc (.cells #[.int .u64 seq,.slice A n C] 82)) q (shL s) 23/\Blk ((w.alloc (.cells #[.int .i64 s.z,.int .i64 s.zb,.int .i64 s.b,.int .i64 s.r] 23)).alloc (.cells #[.int .u64 seq,.slice A n C] 82)) (q+1) [.int .u64 seq,.slice A n C] 82/\Below w.heap.size w ((w.alloc (.cells #[.int .i64 s.z,.int .i64 s.zb,.int .i64 s.b,.int .i64 s.r] 23)).alloc (.cells #[.int .u64 seq,.slice A n C] 82))):=
  ⟨(Blk.new' hq.symm rfl).alloc _,Blk.new' (by simp [hq]) rfl,((Below.refl _ _).alloc (Nat.le_refl _) _).alloc (by simp) _⟩
 have H:=Jh5 hs hk hq hz hn;clear hs hk hz;simp only [shL]
 go_enter func175,ntmps175
 go_upto_region 1 with fail
 rw [<-hq];clear hq;generalize hW:World.alloc (World.alloc w _) _=W at HW ⊢;clear hW;have HC:Hid (∀V:World,Below W.heap.size W V->(V.cell? ⟨q,0,none⟩=some (.int .i64 s.z)/\V.cell? ⟨q,1,none⟩=some (.int .i64 s.zb)/\V.cell? ⟨q,2,none⟩=some (.int .i64 s.b)/\V.cell? ⟨q,3,none⟩=some (.int .i64 s.r))/\V.cell? ⟨q+1,0,none⟩=some (.int .u64 seq)/\V.cell? ⟨q+1,1,none⟩=some (.slice A n C)):=by
  intro V hV;have h:=HW.out.1.below hV HW.out.1.lt;have h':=(J2 HW).below hV (J2 HW).lt;exact ⟨⟨h.cell 0,h.cell 1,h.cell 2,h.cell 3⟩,h'.cell 0,h'.cell 1⟩
 have HR:Hid (Calls prog 42 #[.agg #[.int .i64 s.z,.int .i64 s.zb,.int .i64 s.b,.int .i64 s.r]] W λ e w'=>e=.returned (.bool (decide (Qat s)))/\Below W.heap.size W w'):=Qj1 s W (J4 H);obtain ⟨⟨c0,c1,c2,c3⟩,c4,c5⟩:=HC.out W (Below.refl _ _);by_cases hr:Qat s
 rotate_left
 ·have HS:=Jh1 hr
  rw [decide_eq_false hr] at HR;clear hr;go_wp2_with (go_at_call 42;refine HR.out.mono ?_;rintro e w1 ⟨rfl,b1⟩)
  go_ret2
  exact Qfc (by unfold ckE;rw [if_neg (λ h=>HS.out h.1)]) (by decide) ((Jz2 HW).trans (b1.mono (Jz2 HW).size))
 have HS:=Jh1 hr;rw [decide_eq_true hr] at HR;clear hr;go_upto_region 2 with (go_at_call 42;refine HR.out.mono ?_;rintro e w1 ⟨rfl,b1⟩)
 have H1:=Jh2 b1 ((Jz2 HW).trans (b1.mono (Jz2 HW).size));clear b1 c0 c1 c2 c3 c4 c5 HR;obtain ⟨-,o0,o1⟩:=HC.out w1 H1.out.1;by_cases hri:Qpl ps
 rotate_left
 ·have HN:=Jh1 hri
  have HRi:Hid (Calls prog 233 #[.slice A n C] w1 λ e w'=>e=.returned (.bool false)/\Below w1.heap.size w1 w'):=(Qk4 A n C ps w1 ((J2 H).below H1.out.2)).mono (by rintro e w' ⟨b,rfl,hb,bl⟩;refine ⟨?_,bl⟩;cases b;rfl;exact absurd (hb.1 rfl) hri);clear hri;go_wp2_with (go_at_call 233;refine HRi.out.mono ?_;rintro e w2 ⟨rfl,b2⟩)
  go_ret2
  exact Qfc (by unfold ckE;rw [if_neg (λ h=>HN.out h.2.1)]) (by decide) (H1.out.2.trans (b2.mono H1.out.2.size))
 have HRi:Hid (Calls prog 233 #[.slice A n C] w1 λ e w'=>e=.returned (.bool true)/\Below w1.heap.size w1 w'):=(Qk4 A n C ps w1 ((J2 H).below H1.out.2)).mono (by rintro e w' ⟨b,rfl,hb,bl⟩;refine ⟨?_,bl⟩;cases b;exact absurd (hb.2 hri) (by simp);rfl);have HRs:=Jh1 hri;clear hri;go_wp2_with (go_at_call 233;refine HRi.out.mono ?_;rintro e w2 ⟨rfl,b2⟩)
 have H2:=Jh2 (H1.out.1.trans (b2.mono H1.out.1.size)) (H1.out.2.trans (b2.mono H1.out.2.size));clear b2 o0 o1 HRi H1;go_loopw [7] (λ x wr=>∃i:Nat,x=.int .i64 i/\i<=n/\Below W.heap.size W wr/\∀k p,k<i->ps[k]?=some p->InSh s p) (λ x _=>n - (intOf x).toNat)
 case atStart=>exact ⟨0,rfl,Nat.zero_le _,H2.out.1,λ k p h=>by omega⟩
 case round=>
  obtain ⟨i,rfl,hi,bl,hup⟩:=hrel;have blw:=(Jz2 HW).trans (bl.mono (Jz2 HW).size);obtain ⟨⟨e0,e1,e2,e3⟩,o0,o1⟩:=HC.out wr bl;rcases Nat.lt_or_ge i n with hlt | hge
  ·obtain ⟨b',off,x,hA,hx,d0,d1,d2,d3⟩:=Qeq ((J2 H).below blw) hlt
   subst hA;have hi':(i:Int)<n:=by omega
   have hwi:IntKind.i64.wrap ((i:Int)+1)=(i:Int)+1:=by rw [IntKind.wrap_i64];omega
   obtain ⟨qi,hqi⟩:∃qi,qi=wr.heap.size:=⟨_,rfl⟩
   have HA:Hid (Blk (wr.alloc (.cells #[.int .i64 x.2.1,.int .i64 x.2.2] 85)) qi [.int .i64 x.2.1,.int .i64 x.2.2] 85/\Below W.heap.size W (wr.alloc (.cells #[.int .i64 x.2.1,.int .i64 x.2.2] 85))):=⟨Blk.new' hqi.symm rfl,bl.alloc bl.size _⟩
   have HX:=Jh2 hx hup;clear hx hup bl blw;go_upto_region 8 with fail
   rw [<-hqi];clear d0 d1 d2 d3 e0 e1 e2 e3 o0 o1 hqi;generalize World.alloc wr _=W1 at HA ⊢;obtain ⟨⟨e0,e1,-,-⟩,-,-⟩:=HC.out W1 HA.out.2;have k0:W1.cell? ⟨qi,0,none⟩=some (.int .i64 x.2.1):=HA.out.1.cell 0;have k1:W1.cell? ⟨qi,1,none⟩=some (.int .i64 x.2.2):=HA.out.1.cell 1;have hbad:Hid (¬InSh s x->Qgy w s seq ps (.returned (.tuple #[.slice none 0 0,.int .i64 141])) W1):=λ h=>Qfc (by unfold ckE;rw [if_neg (λ hg=>h (hg.2.2 x (List.mem_of_getElem? HX.out.1)))]) (by decide) ((Jz2 HW).trans (HA.out.2.mono (Jz2 HW).size))
   by_cases t1:x.2.1<2
   ·have f1:decide (x.2.1<2)=true:=by simp [t1]
    have HB:Hid _:=hbad.out (λ h=>by unfold InSh at h;omega);clear t1 hbad;go_wp2
    go_ret2
    exact HB.out
   have f1:decide (x.2.1<2)=false:=by simp;omega
   by_cases t2:s.z<=x.2.1
   ·have f2:decide (s.z<=x.2.1)=true:=by simp [t2]
    have HB:Hid _:=hbad.out (λ h=>by unfold InSh at h;omega);clear t1 t2 hbad;go_wp2
    go_ret2
    exact HB.out
   have f2:decide (s.z<=x.2.1)=false:=by simp;omega
   by_cases t3:x.2.2<0
   ·have f3:decide (x.2.2<0)=true:=by simp [t3]
    have HB:Hid _:=hbad.out (λ h=>by unfold InSh at h;omega);clear t1 t2 t3 hbad;go_wp2
    go_ret2
    exact HB.out
   have f3:decide (x.2.2<0)=false:=by simp;omega
   by_cases t4:s.zb<=x.2.2
   ·have f4:decide (s.zb<=x.2.2)=true:=by simp [t4]
    have HB:Hid _:=hbad.out (λ h=>by unfold InSh at h;omega);clear t1 t2 t3 t4 hbad;go_wp2
    go_ret2
    exact HB.out
   have f4:decide (s.zb<=x.2.2)=false:=by simp;omega
   have HB:Hid (∀k p,k<i+1->ps[k]?=some p->InSh s p):=by
    intro k p hk hp;rcases Nat.lt_or_ge k i with h | h
    ·exact HX.out.2 k p h hp
    ·obtain rfl:k=i:=by omega
     rw [HX.out.1] at hp;cases hp
     unfold InSh;omega
   clear t1 t2 t3 t4 hbad;go_wp2
   go_roundw
   case rel=>exact ⟨i+1,by simp,by omega,HA.out.2,HB.out⟩
   case measure=>simp [intOf];omega
  ·have hin:n=i:=by omega
   subst hin;have hgood:Qm8 s ps:=⟨HS.out,HRs.out,λ p hp=>by
    obtain ⟨k,hk⟩:=List.getElem?_of_mem hp;exact hup k p (by have:=(List.getElem?_eq_some_iff.1 hk).1;rw [(J2 H).1] at this;exact this) hk⟩
   obtain ⟨r,hr⟩:∃r:Nat,Qdx s.b=r:=⟨Qbl s,by have:=Qgl (J5 HS);unfold Qbl;omega⟩
   have hrN:Qbl s=r:=by unfold Qbl;omega
   have hrb:=Qcv HS.out;rw [hrN] at hrb;obtain ⟨N,hN⟩:∃N:Nat,s.b=N:=⟨s.b.toNat,by have:=Qar (show s.b∈PowR from (J5 HS));omega⟩
   have hNb:64<=N/\N<=4096:=by have:=Qar (show s.b∈PowR from (J5 HS));omega
   obtain ⟨zb,hzb⟩:∃zb:Nat,s.zb=zb:=⟨s.zb.toNat,by have:=(J3 HS);omega⟩
   have hzbb:zb<=4096:=by have h2:=(J4 HS);omega
   obtain ⟨m,hm⟩:∃m:Nat,m=mK s ps:=⟨_,rfl⟩
   have w1:IntKind.i64.wrap ((n:Int)+r)=(n:Int)+r:=by rw [IntKind.wrap_i64];omega
   have w2:IntKind.i64.wrap ((n:Int)+r - 1)=((n+r - 1:Nat):Int):=by rw [IntKind.wrap_i64];omega
   obtain ⟨X,hX⟩:∃X:Nat,X=(n+r - 1) / r:=⟨_,rfl⟩
   have hXb:X<=n+r - 1:=by rw [hX];exact Nat.div_le_self _ _
   have w3:IntKind.i64.wrap (((n+r - 1:Nat):Int) / (r:Int))=(X:Int):=by
    rw [<-Int.natCast_ediv,<-hX,IntKind.wrap_i64];omega
   have hmX:m=max 1 X:=by rw [hm];unfold mK Qd4;rw [hrN,(J2 H).1,<-hX]
   have hr0:¬(r:Int)=0:=by omega
   have hRm:∀X:World,Calls prog 234 #[.int .i64 s.b] X λ e w'=>e=.returned (.int .i64 (r:Int))/\w'=X:=λ X=>by rw [<-hr];exact Qtu s.b X
   have HG:=Jh10 hgood hrN hrb hN hNb.1 hNb.2 hzb hzbb hm bl;clear hgood hrN hrb hNb hzbb hm hup bl hXb hX hr;rw [hN] at e2 hRm;rw [hzb] at e1;clear hN hzb;have hm1:1<=m:=by omega
   rcases Nat.eq_zero_or_pos X with hX0 | hX0
   have hmi:Hid ((Value.int .i64 1)=Value.int .i64 (m:Int)):=by rw [show m=1 by omega];exact rfl
   subst hX0;clear hmX;go_upto_region 14 with (go_at_call 234;refine (hRm _).mono ?_;rintro e W1 ⟨rfl,hw1⟩;replace hw1:=hw1.symm;subst hw1)
   rw [hmi.out];clear hmi;rotate_left
   have hXm:m=X:=by omega
   have hm0:((m:Int) == 0)=false:=by simp;omega
   clear hmX hX0;subst hXm;go_upto_region 14 with (go_at_call 234;refine (hRm _).mono ?_;rintro e W1 ⟨rfl,hw1⟩;replace hw1:=hw1.symm;subst hw1)
   rw [hm0];clear hm0
   all_goals (
    clear w1 w2 w3 hr0 hRm;by_cases hbig:zb<m
    ·have f1:decide ((zb:Int)<(m:Int))=true:=by simp;omega
     have f2:decide (zb<m)=true:=by simp;omega
     have HE:Hid (Qgy w s seq ps (.returned (.tuple #[.slice none 0 0,.int .i64 140])) wr):=Qfc (by unfold ckE;rw [if_pos HG.out.1,if_neg (by have:=HG.out;omega)]) (by decide) ((Jz2 HW).trans ((Jz9 HG).mono (Jz2 HW).size));clear hbig;go_wp2
     go_ret2
     exact HE.out
    have f1:decide ((zb:Int)<(m:Int))=false:=by simp;omega
    have f2:decide (zb<m)=false:=by simp;omega
    obtain ⟨ls,hls⟩:∃ls,ls=ckL s seq ps:=⟨_,rfl⟩
    have HL:Hid (ls=ckL s seq ps/\m<=zb/\ckE s ps=0/\ls.length=m):=⟨hls,by omega,Qb2.2 ⟨HG.out.1,by have:=HG.out;omega⟩,by rw [hls,Qbt];exact (J9 HG).symm⟩
    clear hbig hls e0 e1 e2 e3 o0 o1;obtain ⟨V0,hV0⟩:∃V0:World,V0=wr:=⟨_,rfl⟩
    subst hV0;obtain ⟨⟨-,e1,-,-⟩,-,-⟩:=HC.out V0 (Jz9 HG);rw [(J7 HG)] at e1;go_wp2
    clear e1 f1 f2;go_loopw [11,12] (λ v x wr=>∃(i:Nat) (av:Option Addr) (cv:Nat),i<=m/\x=.int .i64 i/\v=.slice av i cv/\RowAt (λ k=>W.heap.size<=k) wr (.slice av i cv) (ls.take i)/\Below W.heap.size W wr) (λ _ x _=>m - (intOf x).toNat)
    case atStart=>exact ⟨0,none,0,Nat.zero_le _,rfl,rfl,by simpa using RowAt.nil _ _,(Jz9 HG)⟩
    case round=>
     obtain ⟨i,av,cv,hi,rfl,rfl,row,bl⟩:=hrel;rcases Nat.lt_or_ge i m with hlt | hge
     ·obtain ⟨V,hV⟩:∃V:World,V=wr:=⟨_,rfl⟩
      subst hV;obtain ⟨F,hF⟩:∃F:Nat,F=i*r:=⟨_,rfl⟩
      obtain ⟨L,hL⟩:∃L:Nat,L=(Qb7 r i ps).length:=⟨_,rfl⟩
      have hMm:Qd4 r n=m:=by rw [(J9 HG)];unfold mK;rw [(J2 HG),(J2 H).1]
      have hg2:=(J3 HG)
      have hFn:F<=n:=by
       rcases Nat.eq_zero_or_pos i with h0 | h0
       ·rw [hF,h0,Nat.zero_mul];exact Nat.zero_le _
       ·rcases Nat.lt_or_ge n F with h | h
        ·have h2:=(Qq9 (r:=r) (n:=n) (z:=i) (by omega) h0).2 (by omega)
         omega
        ·exact h
      have hLe:L=min r (n - F):=by rw [hL];unfold Qb7;rw [List.length_take,List.length_drop,(J2 H).1,hF]
      have hi4:i<=4096/\m<=4096:=by have:=HG.out;have:=HL.out;omega
      have hFb:F<=4096*254:=by rw [hF];exact Nat.mul_le_mul hi4.1 hg2.2.2
      obtain ⟨T,hT⟩:∃T:Nat,T=F+L:=⟨_,rfl⟩
      have hLr:L<=254:=by omega
      have hi':(i:Int)<m:=by omega
      have hwi:IntKind.i64.wrap ((i:Int)+1)=(i:Int)+1:=by rw [IntKind.wrap_i64];omega
      have u1:IntKind.i64.wrap ((i:Int)*r)=(F:Int):=by rw [<-Int.natCast_mul,<-hF,IntKind.wrap_i64];omega
      have u2:IntKind.i64.wrap ((F:Int)+r)=(F:Int)+r:=by rw [IntKind.wrap_i64];omega
      have u3:(if (n:Int)<(F:Int)+r then (n:Int) else (F:Int)+r)=(T:Int):=by split <;> omega
      have u4:IntKind.i64.wrap ((T:Int) - F)=(L:Int):=by rw [IntKind.wrap_i64];omega
      have u5:IntKind.u64.wrap (L:Int)=L:=by rw [IntKind.wrap_u64];omega
      have u6:IntKind.u64.wrap (i:Int)=i:=by rw [IntKind.wrap_u64];omega
      have u7:IntKind.u64.wrap (m:Int)=m:=by rw [IntKind.wrap_u64];omega
      have HF:Hid (F=i*r/\L=(Qb7 r i ps).length/\T=F+L/\T=min (F+r) n/\L<=r/\i<=4096/\m<=4096/\L<=254/\F<=n/\27+16*L<=N):=⟨hF,hL,hT,by omega,by omega,hi4.1,hi4.2,hLr,hFn,by have:=HG.out;omega⟩
      have HV:=Jh2 row bl;obtain ⟨-,o0,o1⟩:=HC.out V bl;clear hF hL hT hMm hg2 hFn hLe hFb row bl hi4 hLr;go_upto_region 22 with fail
      clear u1 u2 u3;have HLt:Hid (∀(X:World) (g:Nat),X.heap.size=g->NIn .u64 (X.alloc (.cells #[.int .u64 1129009236,.int .u64 0,.int .u64 i,.int .u64 m,.int .u64 seq,.int .u64 L] 45)) (some ⟨g,0,none⟩) 6 (hkV i m seq L)):=Q09 (by have:=HF.out;unfold Qai;omega) (by have:=HF.out;unfold Qai;omega) H.out.1 (by have:=HF.out;unfold Qai;omega);have g0:∀o,(V.alloc o).cell? ⟨q+1,0,none⟩=some (.int .u64 seq):=λ o=>(HC.out _ (HV.out.2.alloc HV.out.2.size o)).2.1
      obtain ⟨Q,hQ⟩:∃Q,Q=V.heap.size:=⟨_,rfl⟩
      go_wp2_with fail
      refine (Qc8 (some ⟨V.heap.size,0,none⟩) 6 6 hkW (some ⟨V.heap.size+1,0,none⟩) 6 6 (hkV i m seq L) _ ((Qjt rfl).alloc _) (HLt.out _ _ (by simp)) (by omega) (by omega)).mono ?_
      rintro e w2 ⟨a2,k2,c2,rfl,hk2,ow2,b2⟩;obtain rfl:k2=26:=by rw [hk2];exact Qfk i m seq L
      obtain ⟨pt,hpt⟩:∃pt,pt=Qb7 r i ps:=⟨_,rfl⟩
      have H2:Hid (w2.ownsRow Q 5 1 (.slice a2 26 c2) 26 (u8s (hkB i m seq L ++ plsB (pt.take 0)))/\Below Q V w2/\Q=V.heap.size/\pt=Qb7 r i ps/\pt.length=L):=by
       have e:hkB i m seq L ++ plsB (pt.take 0)=Qan hkW (hkV i m seq L):=by simp [plsB,hkB]
       refine ⟨by rw [e];exact Qa3 ow2 (by simp;omega),?_,hQ,hpt,by rw [hpt];exact (J2 HF).symm⟩
       exact (((Below.refl Q V).alloc (by omega) _).alloc (by simp;omega) _).trans (b2.mono (by simp;omega))
      clear hk2 ow2 b2 HLt g0 o0 o1 u4 u5 u6 u7 hQ hpt;go_wp2
      go_loopw [15,16] (λ b y wr=>∃(j:Nat) (a':Option Addr) (c':Nat),j<=L/\y=.int .i64 ((F+j:Nat):Int)/\b=.slice a' (26+16*j:Nat) c'/\wr.ownsRow Q 5 1 (.slice a' (26+16*j) c') (26+16*j) (u8s (hkB i m seq L ++ plsB (pt.take j)))/\Below Q V wr) (λ _ y _=>T - (intOf y).toNat)
      case atStart=>exact ⟨0,a2,c2,Nat.zero_le _,by simp,rfl,H2.out.1,(J2 H2)⟩
      case round=>
       obtain ⟨j,a',c',hj,rfl,rfl,ow,blq⟩:=hrel;obtain ⟨K,hK⟩:∃K,K=26+16*j:=⟨_,rfl⟩
       obtain ⟨y,hy⟩:∃y,y=F+j:=⟨_,rfl⟩
       rw [<-hK] at ow ⊢;rw [<-hy];have hQs:Q<=wr.heap.size:=by rw [(J3 H2)];exact blq.size
       have blW:Below W.heap.size W wr:=HV.out.2.trans (blq.mono (by rw [(J3 H2)];exact HV.out.2.size));have blw:=(Jz2 HW).trans (blW.mono (Jz2 HW).size);obtain ⟨⟨-,-,e2,-⟩,o0,o1⟩:=HC.out wr blW;rw [(J4 HG)] at e2;rcases Nat.lt_or_ge j L with hjl | hjl
       ·have hyn:y<n:=by have:=HF.out;omega
        obtain ⟨b',off,x,hA,hx,d0,d1,d2,d3⟩:=Qeq ((J2 H).below blw) hyn;subst hA;have hptj:pt[j]?=some x:=by
         rw [(J4 H2)];unfold Qb7;rw [List.getElem?_take_of_lt (by have:=HF.out;omega),List.getElem?_drop,<-hx,hy,HF.out.1]
        have hxf:Fit2 x:=Qi1 HG.out.1 (λ p hp=>((J2 H).2.2.1 p hp).1) x (List.mem_of_getElem? hx);obtain ⟨qi,hqi⟩:∃qi,qi=wr.heap.size:=⟨_,rfl⟩
        have HA:Hid (Blk (wr.alloc (.cells #[.int .u32 x.1.1,.int .u64 x.1.2,.int .i64 x.2.1,.int .i64 x.2.2] 137)) qi (plL x) 137/\(wr.alloc (.cells #[.int .u32 x.1.1,.int .u64 x.1.2,.int .i64 x.2.1,.int .i64 x.2.2] 137)).ownsRow Q 5 1 (.slice a' K c') K (u8s (hkB i m seq L ++ plsB (pt.take j)))/\Below Q V (wr.alloc (.cells #[.int .u32 x.1.1,.int .u64 x.1.2,.int .i64 x.2.1,.int .i64 x.2.2] 137))/\Q<=(wr.alloc (.cells #[.int .u32 x.1.1,.int .u64 x.1.2,.int .i64 x.2.1,.int .i64 x.2.2] 137)).heap.size):=⟨Blk.new' hqi.symm rfl,ow.alloc _,blq.alloc hQs _,by simp;omega⟩
        have hyT:(y:Int)<T:=by have:=HF.out;omega
        have hyn':(y:Int)<n:=by omega
        have hwy:IntKind.i64.wrap ((y:Int)+1)=(y:Int)+1:=by rw [IntKind.wrap_i64];omega
        have HX:=Jh5 hptj hxf hK hy hjl;clear hptj hxf hK hy ow blq blW blw hQs hx e2;go_upto_region 27 with fail
        rw [<-hqi];clear d0 d1 d2 d3 o0 o1 hqi hyn';generalize World.alloc wr _=W7 at HA ⊢;have k0:W7.cell? ⟨qi,0,none⟩=some (.int .u32 x.1.1):=HA.out.1.cell 0;have k1:W7.cell? ⟨qi,1,none⟩=some (.int .u64 x.1.2):=HA.out.1.cell 1;have k2:W7.cell? ⟨qi,2,none⟩=some (.int .i64 x.2.1):=HA.out.1.cell 2;have k3:W7.cell? ⟨qi,3,none⟩=some (.int .i64 x.2.2):=HA.out.1.cell 3;have g0:∀o,(W7.alloc o).cell? ⟨qi,0,none⟩=some (.int .u32 x.1.1):=λ o=>(HA.out.1.alloc o).cell 0
        have g1:∀o,(W7.alloc o).cell? ⟨qi,1,none⟩=some (.int .u64 x.1.2):=λ o=>(HA.out.1.alloc o).cell 1
        have g2:∀o,(W7.alloc o).cell? ⟨qi,2,none⟩=some (.int .i64 x.2.1):=λ o=>(HA.out.1.alloc o).cell 2
        have g3:∀o,(W7.alloc o).cell? ⟨qi,3,none⟩=some (.int .i64 x.2.2):=λ o=>(HA.out.1.alloc o).cell 3
        obtain ⟨v0,v2,v3⟩:IntKind.u64.wrap x.1.1=x.1.1/\IntKind.u64.wrap x.2.1=x.2.1/\IntKind.u64.wrap x.2.2=x.2.2:=by
         obtain ⟨⟨f0,_⟩,f2,f3⟩:=(J2 HX)
         unfold Qas at f0;unfold Qb4 at f2 f3;simp only [IntKind.wrap_u64]
         omega
        have HLp:Hid (∀(X:World) (g:Nat),X.heap.size=g->NIn .u64 (X.alloc (.cells #[.int .u64 x.1.1,.int .u64 x.1.2,.int .u64 x.2.1,.int .u64 x.2.2] 45)) (some ⟨g,0,none⟩) 4 (plV x)):=Q0r (J2 HX);go_wp2_with fail
        refine (Qc8 (some ⟨W7.heap.size,0,none⟩) 4 4 plW (some ⟨W7.heap.size+1,0,none⟩) 4 4 (plV x) _ ((Qnt rfl).alloc _) (HLp.out _ _ (by simp)) (by omega) (by omega)).mono ?_
        rintro e w9 ⟨a9,k9,c9,rfl,hk9,ow9,b9⟩;obtain rfl:k9=16:=by rw [hk9];exact Qd2 x
        have hbb:=(((Below.refl W7.heap.size W7).alloc (Nat.le_refl _) _).alloc (by simp) _).trans (b9.mono (by simp;omega));have H9:Hid (w9.ownsRow Q 5 1 (.slice a' K c') K (u8s (hkB i m seq L ++ plsB (pt.take j)))/\BIn w9 a9 16 (plB x)/\(a9=none->16=0/\c9=0)/\Below Q V w9/\Q<=w9.heap.size):=
         ⟨Qbx (J2 HA) hbb (Nat.le_refl _),Qcf ow9 (by unfold maxLen;omega) (Qqr x),Qhj ow9,(J3 HA).trans (hbb.mono (Jz3 HA)),by have:=hbb.size;have:=(Jz3 HA);omega⟩
        clear hk9 ow9 b9 hbb HLp g0 g1 g2 g3 k0 k1 k2 k3 v0 v2 v3;go_wp2_with (at_builtin;refine Qak rfl (.tmp 121) (.tmp 137) rfl Q a' K c' _ rfl H9.out.1 a9 16 c9 (plB x) rfl (J2 H9) (J3 H9) (by have:=HX.out;have:=HF.out;omega) (Jz4 H9) ?_;intro a3 c3 w3 ow3 bl3)
        go_roundw
        case rel=>
         have e:K+16=26+16*(j+1):=by have:=HX.out;omega
         rw [List.append_assoc,<-Qmy HX.out.1,e] at ow3;exact ⟨j+1,a3,c3,by have:=HX.out;omega,by rw [show ((y:Int)+1)=((F+(j+1):Nat):Int) by have:=(J4 HX);omega],by rw [e],ow3,(J4 H9).trans bl3⟩
        case measure=>simp [intOf];omega
       ·have hjL:L=j:=by omega
        subst hjL;have hyT:¬(y:Int)<T:=by have:=HF.out;omega
        have htk:pt.take L=pt:=List.take_of_length_le (by rw [(Jz4 H2)];exact Nat.le_refl _);rw [htk] at ow;obtain ⟨M,hM⟩:∃M,N=M+1:=⟨N - 1,by have:=HG.out;omega⟩
        have hwM:IntKind.i64.wrap ((N:Int) - 1)=(M:Int):=by have:=HG.out;rw [IntKind.wrap_i64];omega
        have HZ:Hid (wr.ownsRow Q 5 1 (.slice a' K c') K (u8s (hkB i m seq L ++ plsB pt))/\Below Q V wr/\K<=M/\N=M+1/\K=26+16*L):=⟨ow,blq,by have:=HF.out;omega,hM,hK⟩
        clear ow blq htk hM hK hy hQs blW blw e2 o0 o1 hjl hj;go_wp2
        clear hyT;obtain ⟨V1,hV1⟩:∃V1:World,V1=wr:=⟨_,rfl⟩
        subst hV1;go_loopw [15] (λ b wr2=>∃(k:Nat) (a3:Option Addr) (c3:Nat),K+k<=M/\b=.slice a3 (K+k:Nat) c3/\wr2.ownsRow Q 5 1 (.slice a3 (K+k) c3) (K+k) (u8s (hkB i m seq L ++ plsB pt ++ List.replicate k 0))/\Below Q V wr2) (λ b _=>N - Q0b b)
        case atStart=>exact ⟨0,a',c',(J3 HZ),rfl,by simpa using HZ.out.1,(J2 HZ)⟩
        case round=>
         obtain ⟨k,a3,c3,hk,rfl,ow,blq⟩:=hrel;obtain ⟨P,hP⟩:∃P,P=K+k:=⟨_,rfl⟩
         rw [<-hP] at ow hk ⊢;have hQs:Q<=wr.heap.size:=by rw [(J3 H2)];exact blq.size
         have blW:Below W.heap.size W wr:=HV.out.2.trans (blq.mono (by rw [(J3 H2)];exact HV.out.2.size));obtain ⟨⟨-,-,e2,-⟩,-,-⟩:=HC.out wr blW;rw [(J4 HG)] at e2;have HT:=Jh4 ow blq hQs hP;clear ow blq hP hQs blW;rcases Nat.lt_or_ge P M with hlt2 | hge2
         ·have hlt':(P:Int)<M:=by omega
          go_wp2_with (at_builtin;refine Qak rfl (.tmp 145) (.tmp 146) rfl Q a3 P c3 _ rfl (HT.out.1.alloc _) (some ⟨wr.heap.size,0,none⟩) 1 1 [0] rfl (Qf6 rfl rfl rfl Qrx (by unfold maxLen;omega)) (λ h=>by cases h) (by have:=HG.out;have:=(J4 HZ);omega) (by have:=(J3 HT);simp;omega) ?_;intro a4 c4 w4 ow4 bl4)
          go_roundw
          case rel=>
           have e:P+1=K+(k+1):=by have:=(Jz3 HT);omega
           rw [List.append_assoc,<-List.replicate_succ',e] at ow4;exact ⟨k+1,a4,c4,by omega,by rw [e],ow4,((J2 HT).alloc (J3 HT) _).trans bl4⟩
          case measure=>simp [Q0b];have:=(J4 HZ);omega
         ·have hPM:M=P:=by omega
          subst hPM;go_upto_region 31 with (at_builtin;refine Qak rfl (.tmp 148) (.tmp 149) rfl Q a3 M c3 _ rfl (HT.out.1.alloc _) (some ⟨wr.heap.size,0,none⟩) 1 1 [231] rfl (Qf6 rfl rfl rfl Qqe (by unfold maxLen;omega)) (λ h=>by cases h) (by have:=HG.out;have:=(J4 HZ);omega) (by have:=(J3 HT);simp;omega) ?_;intro a5 c5 w5 ow5 bl5)
          have e5:M+1=N:=by have:=(J4 HZ);omega
          obtain ⟨pg,hpg⟩:∃pg,pg=ckP N i m seq pt:=⟨_,rfl⟩
          rw [Q3x (N:=N) (Jz4 H2) (by have:=HZ.out;have:=(Jz3 HT);omega),e5,<-hpg] at ow5;rw [e5];obtain ⟨g5,hg5,hq5,hl5⟩:=Qgf ow5 (by have:=HG.out;omega);subst hg5;have hpf:∀z∈pg,Qaf z:=by rw [hpg];exact Qql
          have hcr:=Qds Qsd hpf;obtain ⟨Z,hZ⟩:∃Z,Z=crI 0 pg:=⟨_,rfl⟩
          rw [<-hZ] at hcr;have hZw:IntKind.u64.wrap Z=Z:=by have:=hcr.1;have:=hcr.2;rw [IntKind.wrap_u64];omega
          have H5:Hid (w5.ownsRow Q 5 1 (.slice (some ⟨g5,0,none⟩) N c5) N (u8s pg)/\Below Q V w5/\BIn w5 (some ⟨g5,0,none⟩) N pg/\Z=crI 0 pg/\Qas Z/\Q<=g5/\g5<w5.heap.size/\pg=ckP N i m seq pt):=
           ⟨ow5,((J2 HT).alloc (J3 HT) _).trans bl5,Qcf ow5 (by have:=HG.out;unfold maxLen;omega) hpf,hZ,hcr,hq5,hl5,hpg⟩
          clear ow5 bl5 hcr hZ hq5 hl5 e5 hwM hge2 hk hpf hpg e2;go_wp2_with (go_at_call 160;refine (Qhd (some ⟨g5,0,none⟩) N c5 pg _ ((J3 H5).alloc _)).mono ?_;rintro e W9 ⟨rfl,hw9⟩;replace hw9:=hw9.symm;subst hw9;rw [<-(J4 H5)])
          refine (Qc8 (some ⟨w5.heap.size,0,none⟩) 1 1 [4] (some ⟨w5.heap.size+1,0,none⟩) 1 1 [Z] _ ((Qet 3 (L:=[4]) rfl rfl rfl rfl (by decide)).alloc _) (Qdq 45 (by simp) rfl rfl (by intro z hz;simp only [List.mem_cons,List.not_mem_nil,or_false] at hz;subst hz;have:=(J5 H5);unfold Qas at this;unfold Qai;omega) (by omega)) (by omega) (by omega)).mono ?_
          rintro e w6 ⟨a6,k6,c6,rfl,hk6,ow6,b6⟩;obtain rfl:k6=4:=by rw [hk6,Qos,Qac]
          rw [Qos] at ow6;obtain ⟨g6,hg6,hq6,_⟩:=Qgf ow6 (by omega);subst hg6;have hbb:=(((Below.refl w5.heap.size w5).alloc (Nat.le_refl _) _).alloc (by simp) _).trans (b6.mono (by simp;omega));have hqq:w5.heap.size<=g6:=by simp at hq6;omega
          obtain ⟨S,hS⟩:∃S,S=bigI 4 Z:=⟨_,rfl⟩
          have hSl:S.length=4:=by rw [hS,Qac]
          rw [<-hS] at ow6;have H6:Hid (w6.ownsRow Q 5 1 (.slice (some ⟨g5,0,none⟩) N c5) N (u8s (splice pg 4 (S.take 0)))/\w6.ownsRow w5.heap.size 5 1 (.slice (some ⟨g6,0,none⟩) 4 c6) 4 (u8s S)/\Below Q V w6):=
           ⟨by rw [show splice pg 4 (S.take 0)=pg by simp [splice]];exact Qbx H5.out.1 hbb (Nat.le_refl _),Qa3 ow6 (by simp;omega),(J2 H5).trans (hbb.mono (by have:=(Jz5 H5);omega))⟩
          have HQ:=Jh3 hS hSl hqq;clear hk6 ow6 b6 hbb hqq hS hSl hq6 hZw;go_wp2
          go_loopw [19] (λ y wr=>∃t:Nat,t<=4/\y=.int .i64 t/\wr.ownsRow Q 5 1 (.slice (some ⟨g5,0,none⟩) N c5) N (u8s (splice pg 4 (S.take t)))/\wr.ownsRow w5.heap.size 5 1 (.slice (some ⟨g6,0,none⟩) 4 c6) 4 (u8s S)/\Below Q V wr) (λ y _=>4 - (intOf y).toNat)
          case atStart=>exact ⟨0,by omega,rfl,H6.out⟩
          case round=>
           obtain ⟨t,ht,rfl,oa,ob,blq⟩:=hrel;have hpl:pg.length=N:=by rw [(Jz7 H5)];exact Qkn (by rw [(Jz4 H2)];exact (Jz9 HF))
           rcases Nat.lt_or_ge t 4 with hlt3 | hge3
           ·have hlt':(t:Int)<4:=by omega
            obtain ⟨T4,hT4⟩:∃T4,T4=4+t:=⟨_,rfl⟩
            have hTw:IntKind.i64.wrap (4+(t:Int))=(T4:Int):=by rw [IntKind.wrap_i64];omega
            have hTN:T4<N:=by have:=HG.out;omega
            have hTN':(T4:Int)<N:=by omega
            have hsl:(splice pg 4 (S.take t)).length=N:=by rw [Qc4 (by rw [hpl,List.length_take,(J2 HQ)];have:=HG.out;omega)];exact hpl
            obtain ⟨v,hv⟩:∃v,v=S.getD t 0:=⟨_,rfl⟩
            have ca:wr.cell? ⟨g6,t,none⟩=some (.int .u8 v):=by
             rw [ob.cellAt t (by omega),hv];have:=(J2 HQ)
             simp [u8s,List.getD,this,hlt3]
            obtain ⟨z,hz⟩:∃z,z=(splice pg 4 (S.take t)).getD T4 0:=⟨_,rfl⟩
            have cb:wr.cell? ⟨g5,T4,none⟩=some (.int .u8 z):=by
             rw [oa.cellAt T4 (by omega),hz];simp [u8s,List.getD,hsl,hTN]
            have fb:=oa.frozenAt T4;obtain ⟨s1,_⟩:=oa.stored T4 (.int .u8 v);rw [Qv3] at s1;have e:=Qil (p:=pg) (S:=S) (j:=t) (by have:=HG.out;omega) (J2 HQ) hlt3;rw [<-hT4,<-hv] at e;rw [e] at s1;have HR:Hid ((wr.setCell ⟨g5,T4,none⟩ (.int .u8 v)).ownsRow Q 5 1 (.slice (some ⟨g5,0,none⟩) N c5) N (u8s (splice pg 4 (S.take (t+1))))/\(wr.setCell ⟨g5,T4,none⟩ (.int .u8 v)).ownsRow w5.heap.size 5 1 (.slice (some ⟨g6,0,none⟩) 4 c6) 4 (u8s S)/\Below Q V (wr.setCell ⟨g5,T4,none⟩ (.int .u8 v))):=
             ⟨s1,ownsRow_setCell_below ob (a:=⟨g5,T4,none⟩) (by show g5<w5.heap.size;exact (J7 H5)) _,blq.setCell (p:=⟨g5,T4,none⟩) (by show Q<=g5;exact (J6 H5)) _⟩
            clear oa ob blq hT4 hTN hpl hsl hv hz s1 e;go_wp2
            go_roundw
            case rel=>exact ⟨t+1,by omega,by simp,HR.out⟩
            case measure=>simp [intOf];omega
           ·have ht4:t=4:=by omega
            subst ht4;have hcb:splice pg 4 (S.take 4)=ckB N i m seq pt:=by
             rw [List.take_of_length_le (by rw [(J2 HQ)];omega),HQ.out.1,(J4 H5),Qed,(Jz7 H5)];rfl
            rw [hcb] at oa;have hD:ls[i]?=some (ckB N i m seq pt):=by
             have h1:=Qu3 (s:=s) (seq:=seq) (ps:=ps) (i:=i) (by rw [<-(J9 HG)];exact hlt);rw [(J2 HG),<-(J9 HG),(J4 HG),Int.toNat_natCast,<-(J4 H2)] at h1;rw [HL.out.1];exact h1
            have hDl:(ckB N i m seq pt).length=N:=Qd3 (by rw [(Jz4 H2)];exact (Jz9 HF));have hsz:W.heap.size<=Q:=by rw [(J3 H2)];exact HV.out.2.size
            have hbk:BkAt (λ j=>W.heap.size<=j) wr (.slice (some ⟨g5,0,none⟩) N c5) (ckB N i m seq pt):=⟨by rw [hDl];exact Qbh oa,λ c hc=>Nat.le_trans hsz (oa.lt c hc).1,Qpx,by rw [hDl];have:=HG.out;omega⟩
            have blV:Below V.heap.size V wr:=by rw [<-(J3 H2)];exact blq
            have rowZ:RowAt (λ j=>W.heap.size<=j) wr (.slice av i cv) (ls.take i):=HV.out.1.out (Qab Non blV) (λ _ _=>id) (λ _ _ _ _=>id);have htl:(ls.take i).length=i:=by rw [List.length_take,(Jz3 HL)];omega
            have hWr:W.heap.size<=wr.heap.size:=Nat.le_trans HV.out.2.size blV.size;obtain ⟨a9,c9,w9,e9,r9,g9,_⟩:=Qep rowZ hbk rfl (by rw [htl];have:=HF.out;omega) (λ k hk=>Nat.le_trans hWr hk);rw [htl] at e9 r9;have blW:=HV.out.2.trans (blV.mono HV.out.2.size);have H9:Hid (RowAt (λ j=>W.heap.size<=j) w9 (.slice a9 (i+1) c9) (ls.take (i+1))/\Below W.heap.size W w9):=by
             obtain ⟨vs,r1,r2,_⟩:=rowZ;exact ⟨by rw [Qao hD];exact r9,(blW.alloc hWr _).grown g9 (by simp;omega) (λ k hk=>r2 k hk)⟩
            clear oa ob blq hcb hD hDl hsz hbk blV rowZ htl hWr r9 g9 blW hpl;go_wp2_with (at_builtin;refine Qag rfl (.tmp 169) (.tmp 171) 74 74 rfl _ _ rfl rfl _ _ e9 ?_)
            clear e9;go_roundw
            case rel=>exact ⟨i+1,a9,c9,by omega,by simp,by simp,H9.out.1,H9.out.2⟩
            case measure=>simp [intOf];omega
     ·have him:m=i:=by omega
      subst him;have htk:ls.take m=ls:=List.take_of_length_le (by rw [(Jz3 HL)];exact Nat.le_refl _);rw [htk] at row;have HR:Hid (Qgy w s seq ps (.returned (.tuple #[.slice av m cv,.int .i64 0])) wr):=by
       refine ⟨_,by rw [(J3 HL)],?_,(Jz2 HW).trans (bl.mono (Jz2 HW).size)⟩
       unfold ckO;rw [if_pos (J3 HL),<-HL.out.1];exact row.mono (λ c hc _=>Nat.le_trans (Jz2 HW).size hc)
      clear row bl htk;go_wp2
      go_ret2
      exact HR.out)
end Go.Proofs.YtcdnjeiamihhbaaGreat

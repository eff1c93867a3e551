/- P17 -/
import Derived.Test.YtcdnjeiamihhbaaGreatP16
set_option linter.unusedVariables false
set_option maxRecDepth 4000
open Go.Proofs.Tryz
namespace Go.Proofs.YtcdnjeiamihhbaaGreat
open Go.RowKit
section
theorem blk_ne' {W:World} {g g':Nat} {L L':List Value} {t t':TypeId} (h:Blk W g L t) (h':Blk W g' L' t') (ht:t≠t'):g≠g':=by
 rintro rfl;have e:some (Obj.cells L.toArray t (0,0))=some (Obj.cells L'.toArray t' (0,0)):=h.symm.trans h';simp only [Option.some.injEq,Obj.cells.injEq] at e
 exact ht e.2.1
theorem Qe1 {n:Nat} {w w':World} (h:Below n w w') (k:Nat):Below n w (w'.drewN k):=⟨h.os,h.tape,h.output,h.size,h.block⟩
theorem Qfh {n m:Nat} {w w':World} (h:Below m w w') (hn:n<=m):Below n w w':=⟨h.os,h.tape,h.output,h.size,λ k hk=>h.block k (by omega)⟩
structure SegP (W:World) (p g:Nat) (r:Int) (L:List Int):Prop where
 hp:Blk W p [.slice (some ⟨g,0,none⟩) L.length L.length,.int .i64 r] 274
 hg:Blk W g (u8s L) 5
 len:2<=L.length/\L.length<=256
 fit:∀x∈L,Qaf x
section
variable {W W':World} {p g:Nat} {r:Int} {L:List Int} {O:Nat->Prop}
theorem SegP.c0 (h:SegP W p g r L):W.cell? ⟨p,0,none⟩=some (.slice (some ⟨g,0,none⟩) L.length L.length):=h.hp.cell 0
theorem SegP.c1 (h:SegP W p g r L):W.cell? ⟨p,1,none⟩=some (.int .i64 r):=h.hp.cell 1
theorem SegP.at (h:SegP W p g r L) {i:Nat} (hi:i<L.length):W.cell? ⟨g,i,none⟩=some (.int .u8 (L.getD i 0)):=by
 rw [h.hg.cell];simp [u8s,List.getD,hi]
theorem SegP.free (h:SegP W p g r L) (i:Nat):W.frozen? ⟨g,i,none⟩=false:=h.hg.frozen i
theorem SegP.lt (h:SegP W p g r L):p<W.heap.size/\g<W.heap.size:=⟨h.hp.lt,h.hg.lt⟩
theorem SegP.out (h:SegP W p g r L) (ho:Out O W W') (h1:¬O p) (h2:¬O g):SegP W' p g r L:=⟨ho.blk h.hp h1,ho.blk h.hg h2,h.len,h.fit⟩
theorem SegP.under (h:SegP W p g r L) (hb:Below W.heap.size W W'):SegP W' p g r L:=h.out (Qab Non hb) (λ e=>e) (λ e=>e)
theorem SegP.ne (h:SegP W p g r L):p≠g:=blk_ne' h.hp h.hg (by decide)
theorem SegP.set (h:SegP W p g r L) (i:Nat) {b:Int} (hb:Qaf b):SegP (W.setCell ⟨g,i,none⟩ (.int .u8 b)) p g r (L.set i b):=by
 refine ⟨?_,?_,by simpa using h.len,λ x hx=>?_⟩
 ·have:=h.hp.set_other (a:=⟨g,i,none⟩) h.ne (.int .u8 b)
  simpa using this
 ·have:=h.hg.set i (.int .u8 b)
  rw [show (u8s L).set i (.int .u8 b)=u8s (L.set i b) by simp [u8s,List.map_set]] at this;exact this
 ·rcases List.mem_or_eq_of_mem_set hx with h' | rfl
  ·exact h.fit x h'
  ·exact hb
theorem Qdg (w:World) (g i:Nat) (v:Value):Out (λ j=>j=g) w (w.setCell ⟨g,i,none⟩ v):=(Out.refl (λ j=>j=g) w).setCell (p:=⟨g,i,none⟩) (.inl rfl) v
end
theorem Qnl (p g:Nat) (r:Int) (L:List Int) (z:Int) (w:World) (h:SegP w p g r L) :
  Calls prog 133 #[.pointer (some ⟨p,0,none⟩),.int .i64 z] w λ e w'=>e=.returned (.int .u8 (stZ L z))/\w'=w:=by
 have c0:=h.c0;obtain ⟨N,hN⟩:∃N,N=L.length:=⟨_,rfl⟩
 rw [<-hN] at c0;have HS:=Jh2 h hN;obtain ⟨S,hS⟩:∃S,S=stZ L z:=⟨_,rfl⟩
 rw [<-hS];have HZ:=Jh1 hS;clear h hS hN;rcases Int.lt_or_le z 0 with h0 | h0
 ·have e:S=0:=HZ.out.trans (Qey (.inl h0))
  subst e;go_enter func133,ntmps133
  go_wp2
  go_ret
  exact ⟨rfl,rfl⟩
 ·rcases Int.lt_or_le z N with h1 | h1
  ·obtain ⟨i,rfl⟩:∃i:Nat,z=i:=⟨z.toNat,by omega⟩
   have hi:i<L.length:=by have:=HS.out.2;omega
   have c1:w.cell? ⟨g,i,none⟩=some (.int .u8 S):=by rw [HZ.out,Qf3];exact HS.out.1.at hi
   clear h0 hi;have h1':i<N:=by omega
   go_enter func133,ntmps133
   go_wp2
   go_ret
   exact ⟨rfl,rfl⟩
  ·have e:S=0:=HZ.out.trans (Qey (.inr (by rw [<-HS.out.2];exact h1)))
   subst e;go_enter func133,ntmps133
   go_wp2
   go_ret
   exact ⟨rfl,rfl⟩
end
def Qdw (w:World) (p g:Nat) (r:Int) (L:List Int) (z a b:Int) (e:Ending) (w':World):Prop:=
 e=.returned (.bool (decide (stZ L z=a)))/\SegP w' p g r (Qcm L z a b)/\Out (λ j=>j=g) w w'
theorem Qll (p g:Nat) (r:Int) (L:List Int) (z a b:Int) (w:World) (h:SegP w p g r L) (ha:a≠0) (hb:Qaf b) :
  Calls prog 196 #[.pointer (some ⟨p,0,none⟩),.int .i64 z,.int .u8 a,.int .u8 b] w λ e w'=>Qdw w p g r L z a b e w':=by
 obtain ⟨S,hS⟩:∃S,S=stZ L z:=⟨_,rfl⟩
 have hst:=Qnl p g r L z w h;rw [<-hS] at hst;by_cases hq:S=a
 ·have hst0:stZ L z=a:=hS.symm.trans hq
  obtain ⟨z0,z1⟩:=Q0v hst0 ha;obtain ⟨i,rfl⟩:∃i:Nat,z=i:=⟨z.toNat,by omega⟩
  have hi:i<L.length:=by omega
  have fin:Qdw w p g r L i a b (.returned (.bool true)) (w.setCell ⟨g,i,none⟩ (.int .u8 b)):=by
   refine ⟨by rw [decide_eq_true hst0],?_,Qdg _ _ _ _⟩
   unfold Qcm;rw [if_pos hst0];exact h.set i hb
  have HF:=Jh1 fin;have HT:=Jh1 @hst;have c0:=h.c0;have c1:=h.at hi;have z2:=h.free i;generalize L.getD i 0=X at c1;generalize hN:L.length=N at c0 hi;clear fin hst hst0 z0 z1 h hS hN ha hb;subst hq;go_enter func196,ntmps196
  go_wp2_with (go_at_call 133;refine HT.out.mono ?_;rintro e w' ⟨rfl,rfl⟩)
  go_ret
  exact HF.out
 ·have hst0:¬stZ L z=a:=λ e=>hq (hS.trans e)
  have fin:Qdw w p g r L z a b (.returned (.bool false)) w:=by
   refine ⟨by rw [decide_eq_false hst0],?_,Out.refl _ _⟩
   unfold Qcm;rw [if_neg hst0];exact h
  have HF:=Jh1 fin;have HT:=Jh1 @hst;clear fin hst hst0 h hS ha hb;go_enter func196,ntmps196
  go_wp2_with (go_at_call 133;refine HT.out.mono ?_;rintro e w' ⟨rfl,rfl⟩)
  go_ret
  exact HF.out
theorem Qr6 (p g:Nat) (r:Int) (L:List Int) (z:Int) (w:World) (h:SegP w p g r L) :
  Calls prog 137 #[.pointer (some ⟨p,0,none⟩),.int .i64 z] w λ e w'=>Qdw w p g r L z 2 3 e w':=by
 have HT:Hid (Calls prog 196 #[.pointer (some ⟨p,0,none⟩),.int .i64 z,.int .u8 2,.int .u8 3] w λ e w'=>Qdw w p g r L z 2 3 e w'):=Qll p g r L z 2 3 w h (by decide) (by unfold Qaf;omega);clear h;go_enter func137,ntmps137
 go_wp2_with (go_at_call 196;refine HT.out.mono ?_;rintro e w' ⟨rfl,h1,h2⟩)
 go_ret
 exact ⟨rfl,h1,h2⟩
theorem Qnb (p g:Nat) (r:Int) (L:List Int) (z:Int) (w:World) (h:SegP w p g r L) :
  Calls prog 128 #[.pointer (some ⟨p,0,none⟩),.int .i64 z] w λ e w'=>Qdw w p g r L z 1 3 e w':=by
 have HT:Hid (Calls prog 196 #[.pointer (some ⟨p,0,none⟩),.int .i64 z,.int .u8 1,.int .u8 3] w λ e w'=>Qdw w p g r L z 1 3 e w'):=Qll p g r L z 1 3 w h (by decide) (by unfold Qaf;omega);clear h;go_enter func128,ntmps128
 go_wp2_with (go_at_call 196;refine HT.out.mono ?_;rintro e w' ⟨rfl,h1,h2⟩)
 go_ret
 exact ⟨rfl,h1,h2⟩
theorem Qxc (p g:Nat) (r:Int) (L:List Int) (a:Int) (w:World) (h:SegP w p g r L) :
  Calls prog 255 #[.slice (some ⟨g,0,none⟩) L.length L.length,.int .u8 a] w λ e w'=>e=.returned (.int .i64 (if Qba L a<L.length then (Qba L a:Int) else -1))/\w'=w:=by
 obtain ⟨N,hN⟩:∃N,N=L.length:=⟨_,rfl⟩
 obtain ⟨R,hR⟩:∃R:Int,R=(if Qba L a<L.length then (Qba L a:Int) else -1):=⟨_,rfl⟩
 rw [<-hR];have HS:=Jh3 h hN hR;rw [<-hN];clear h hN hR;go_enter func255,ntmps255
 go_wp2
 go_loopw [8] (λ i wr=>∃k:Nat,i=.int .i64 k/\k<=N/\(∀j,j<k->L.getD j 0≠a)/\wr=w) (λ i wr=>N - (intOf i).toNat)
 case atStart=>exact ⟨0,rfl,Nat.zero_le _,λ j hj=>by omega,rfl⟩
 case round=>
  obtain ⟨k,rfl,hk,hno,rfl⟩:=hrel;have HN:=Jh1 @hno;clear hno;rcases Nat.lt_or_ge k N with hlt | hge
  ·have c1:=HS.out.1.at (i:=k) (by rw [<-(J2 HS)];exact hlt)
   obtain ⟨X,hX⟩:∃X,X=L.getD k 0:=⟨_,rfl⟩
   rw [<-hX] at c1;have HX:=Jh1 hX;have hw:IntKind.i64.wrap ((k:Int)+1)=(k:Int)+1:=by have:=HS.out.1.len.2;have:=(J2 HS);rw [IntKind.wrap_i64];omega
   clear hX;by_cases hq:a=X
   ·have HQ:=Jh1 hq
    subst hq;go_wp2
    go_ret
    refine ⟨?_,rfl⟩
    have e:Qba L a=k:=Qxl (by rw [<-(J2 HS)];exact hlt) HX.out.symm HN.out;rw [(Jz2 HS),e,if_pos (by rw [<-(J2 HS)];exact hlt)];rfl
   ·have HQ:=Jh1 hq
    go_wp2
    go_roundw
    case rel=>
     refine ⟨k+1,by simp,by omega,λ j hj=>?_,(by first | rfl | trivial)⟩
     rcases Nat.lt_or_ge j k with h1 | h1
     ·exact HN.out j h1
     ·obtain rfl:j=k:=by omega
      rw [<-HX.out];exact λ e=>HQ.out e.symm
    case measure=>simp [intOf];omega
  ·obtain rfl:k=N:=by omega
   go_wp2
   go_ret
   refine ⟨?_,rfl⟩
   have e:Qba L a=L.length:=Qst (λ j hj=>HN.out j (by rw [(J2 HS)];exact hj));rw [(Jz2 HS),e,if_neg (by omega)];rfl
def Qpc (w:World) (p g:Nat) (r:Int) (L:List Int) (e:Ending) (w':World):Prop:=
 e=.returned (.tuple #[.int .i64 (Qo8 L),.bool (Qng L)])/\SegP w' p g r (Qja L)/\Out (λ j=>j=g) w w'
theorem Qyv (p g:Nat) (r:Int) (L:List Int) (w:World) (h:SegP w p g r L) :
  Calls prog 205 #[.pointer (some ⟨p,0,none⟩)] w λ e w'=>Qpc w p g r L e w':=by
 have hix:=Qxc p g r L 1 w h;have c0:=h.c0;by_cases hf:Qba L 1<L.length
 ·rw [if_pos hf] at hix
  have ht:=Qll p g r L (Qba L 1) 1 2 w h (by decide) (by unfold Qaf;omega);have hs1:stZ L (Qba L 1)=1:=by rw [Qf3];exact Qg1 hf
  have fin:∀e w',Qdw w p g r L (Qba L 1) 1 2 e w'->e=.returned (.bool true)/\Qpc w p g r L (.returned (.tuple #[.int .i64 (Qba L 1),.bool true])) w':=by
   rintro e w' ⟨rfl,h1,h2⟩;refine ⟨by rw [decide_eq_true hs1],?_,?_,h2⟩
   ·simp [Qo8,Qng,hf]
   ·rw [Qu5,if_pos hf];exact h1
  have HF:=Jh1 @fin;generalize Qdw w p g r L (Qba L 1) 1 2=T' at HF ht;have hlt0:¬((Qba L 1:Nat):Int)<0:=by omega
  generalize hF:Qba L 1=F at HF ht hix hlt0;generalize L.length=N at c0 hix;clear fin hs1 h hf;have HI:=Jh1 @hix;have HT:=Jh1 @ht;clear hix ht hF;go_enter func205,ntmps205
  go_wp2_with (first
   | (go_at_call 255;refine HI.out.mono ?_;rintro e w' ⟨rfl,rfl⟩)
   | (go_at_call 196;refine HT.out.mono ?_;intro e w2 hx;obtain ⟨rfl,hx2⟩:=HF.out _ _ hx))
  go_ret2
  exact hx2
 ·rw [if_neg hf] at hix
  have fin:Qpc w p g r L (.returned (.tuple #[.int .i64 0,.bool false])) w:=by
   refine ⟨?_,?_,Out.refl _ _⟩
   ·simp [Qo8,Qng,hf]
   ·unfold Qja;rw [if_neg hf];exact h
  have HF:=Jh1 fin;generalize L.length=N at c0 hix;clear fin h hf;have HI:=Jh1 @hix;clear hix;go_enter func205,ntmps205
  go_wp2_with (go_at_call 255;refine HI.out.mono ?_;rintro e w' ⟨rfl,rfl⟩)
  go_ret2
  exact HF.out
theorem Tryz.zero_int:(prog.info? 3).map (λ i=>(i.zero,i.size,i.bytes))=some (some (.int .i64 0),1,8):=by kernel_rfl
theorem Qne (w:World) (r:Option Nat):w.grownBy w r:=⟨rfl,rfl,rfl,Nat.le_refl _,λ _ _ _=>rfl⟩
theorem Qdp {k:IntKind} {e t:TypeId} {size:Nat} (ht:prog.underlying t=some (.slice e)) (hinfo:(prog.info? e).map (λ i=>(i.zero,i.size,i.bytes))=some (some (.int k 0),1,size)) (hsz:size<=8)
  {ops:Array Oper} {rest:List Oper} {o:Oper} {a:Act} {Q:Exit->Act->World->Prop} {w:World} (hgd:o.guard=none) (s x:Operand)
  (ho:o.op=.call {callee:=.builtin .append,args:=#[s,x],argTypes:=#[t,t]}) (base:Nat)
  (a0:Option Addr) (n0 c0:Nat) (xs:List Int) (hs:a.eval s=.slice a0 n0 c0) (hown:w.ownsRow base e 1 (.slice a0 n0 c0) n0 (Qaj k xs))
  (a1:Option Addr) (n1 c1:Nat) (zs:List Int) (hx:a.eval x=.slice a1 n1 c1) (hin:NIn k w a1 n1 zs) (hnil:a1=none->n1=0/\c1=0)
  (hle:n0+n1<=1000000) (hbase:base<=w.heap.size)
  (h:∀a' c' w',w'.ownsRow base e 1 (.slice a' (n0+n1) c') (n0+n1) (Qaj k (xs ++ zs))->Below base w w'->w.grownBy w' (Value.slice a0 n0 c0).ownBlock->wpList prog ops Q rest (a.put o.dst (.slice a' (n0+n1) c')) w') :
  wpList prog ops Q (o :: rest) a w:=by
 obtain ⟨i0,hi,hz0,hz1,hz2⟩:=info_parts hinfo;obtain ⟨hl,hm,hfit,hcell⟩:=hin;cases a1 with
 | none=>
  obtain ⟨rfl,rfl⟩:=hnil rfl;have:zs=[]:=List.length_eq_zero_iff.1 hl;subst this;refine wpList_append_own_none hgd s x t ho base e i0 1 ht hi _ n0 (Qaj k xs) hs hown hx ?_
  have:=h a0 c0 w (by simpa using hown) (Below.refl _ _) (Qne _ _);simpa using this
 | some ad=>
  refine wpList_append_own w hgd s x t ho base e i0 (.int k 0) 1 size ht hi hz0 hz1 hz2 rfl (by decide) _ n0 (Qaj k xs) hs hown ad n1 c1 (Qaj k zs) hx (by simp [Qaj,hl]) ?_ (Qjn _ _) (by unfold maxLen;omega) ?_ hbase ?_
  ·intro j u hj
   have hjl:j<n1:=by
    have:=(List.getElem?_eq_some_iff.1 hj).1;rwa [Qeo,hl] at this
   rcases hcell with hc | ⟨b,off,ha,hc⟩
   ·omega
   ·cases ha
    rw [Addr.add_mid,hc j hjl,<-hj];simp [Qaj,List.getD,hl,hjl]
  ·have:=Nat.mul_le_mul hle hsz
   omega
  ·intro v' w' hown' hgrow _
   have hb:Below base w w':=(Below.refl base w).grown hgrow hbase (λ k hk=>(hown.lt k hk).1);have hcat:Qaj k xs ++ Qaj k zs=Qaj k (xs ++ zs):=by simp [Qaj]
   rw [hcat] at hown';obtain ⟨a',c',rfl⟩:∃a' c',v'=.slice a' (n0+n1) c':=by
    rcases hown'.2 with ⟨hv,hn⟩ | ⟨g,cap,cur,hv,_⟩
    ·exact ⟨none,0,by rw [hv,hn]⟩
    ·exact ⟨_,_,hv⟩
   exact h a' c' w' hown' hb hgrow
theorem Blk.grownR {w w':World} {q:Nat} {L:List Value} {t:TypeId} {row:Option Nat} (h:Blk w q L t) (hg:w.grownBy w' row) (hne:row≠some q):Blk w' q L t:=by
 unfold Blk;rw [hg.block q h.lt (λ e=>hne e.symm)];exact h
theorem Qcp {w:World} {B:Nat} {e:TypeId} {s n:Nat} {v:Value} {xs:List Value} {q:Nat} {L:List Value} {t:TypeId} (ho:w.ownsRow B e s v n xs) (hb:Blk w q L t) (ht:t≠e):v.ownBlock≠some q:=λ h=>by
 obtain ⟨cur,hc⟩:=Qaz ho h;have e2:some (Obj.cells L.toArray t (0,0))=some (Obj.cells cur e (0,0)):=(hb:w.heap[q]?=_).symm.trans hc;simp only [Option.some.injEq,Obj.cells.injEq] at e2
 exact ht e2.2.1
def F63 (z:Int):Prop:=-9223372036854775808<=z/\z<9223372036854775808
theorem wfI {z:Int} (h:F63 z):(Lit.int .i64 z).wf=true:=by
 unfold F63 at h;simp [Lit.wf,IntKind.min,IntKind.max,IntKind.signed,IntKind.bits]
 omega
def LS (B q:Nat) (W:World) (xs:List Int):Prop:=
 ∃A c,Blk W q [.slice A xs.length c] 103/\W.ownsRow B 3 1 (.slice A xs.length c) xs.length (Qaj .i64 xs)/\B<=q/\B<=W.heap.size
def CS (B q:Nat) (W:World) (n:Nat):Prop:=Blk W q [.int .i64 n] 3/\B<=q
theorem Qvu (B q i:Nat) (xs:List Int) (w:World) (h:LS B q w xs) (hl:xs.length<=300) (hi:i<=300) :
  Calls prog 254 #[.int .i64 i,.pointer (some ⟨q,0,none⟩)] w λ e w'=>e=.returned (.tuple #[])/\LS B q w' (xs ++ [(i:Int)])/\Below B w w':=by
 obtain ⟨A,c,hq,ho,hB,hs⟩:=h;have c0:w.cell? ⟨q,0,none⟩=some (.slice A xs.length c):=hq.cell 0;generalize hn:xs.length=n at *;have HH:=Jh7 hq ho hB hs hl hi hn;clear hq ho hB hs hl hi hn;go_enter func254,ntmps254
 go_wp2_with (at_builtin;refine Qdp (k:=.i64) Tryz.underlying103 Tryz.zero_int (by omega) rfl (.tmp 3) (.tmp 5) rfl B A n c _ rfl ((J2 HH).alloc _) (some ⟨w.heap.size,0,none⟩) 1 1 [(i:Int)] rfl (Qfz rfl rfl rfl (λ z hz=>by simp at hz;subst hz;exact wfI (by have:=(J6 HH);unfold F63;omega)) (by unfold maxLen;omega)) (λ h=>by cases h) (by have:=(J5 HH);omega) (by have:=(J4 HH);simp;omega) ?_;intro a2 c2 w2 ow2 bl2 gr2;have hb2:Blk w2 q [.slice A n c] 103:=(HH.out.1.alloc _).grownR gr2 (Qcp (J2 HH) HH.out.1 (by decide));have c2q:w2.cell? ⟨q,0,none⟩=some (.slice A n c):=hb2.cell 0;have z2q:=hb2.frozen 0;have HB:=Jh3 hb2 ow2 bl2;clear hb2 ow2 bl2 gr2)
 first | go_end0 | refine bodyPost_ret (results_none rfl _ _ _) rfl ?_
 have hl:(xs ++ [(i:Int)]).length=n+1:=by simp [(Jz6 HH)]
 refine ⟨rfl,⟨a2,c2,?_,?_,(J3 HH),?_⟩,?_⟩
 ·rw [hl];exact HB.out.1.set 0 _
 ·rw [hl];exact (Qdg w2 q 0 _).own (J2 HB) (λ g hg e=>Qcp (J2 HB) HB.out.1 (by decide) (by rw [<-e];exact hg))
 ·have:=(Jz2 HB).size;have:=(J4 HH);simp [World.setCell] at *;omega
 ·exact ((((Below.refl B w).alloc (J4 HH) _).trans (Jz2 HB)).setCell (by exact (J3 HH)) _)
theorem Qz0 (B q i n:Nat) (w:World) (h:CS B q w n) (hl:n<=300) :
  Calls prog 203 #[.int .i64 i,.pointer (some ⟨q,0,none⟩)] w λ e w'=>e=.returned (.tuple #[])/\CS B q w' (n+1)/\Below B w w':=by
 have c0:w.cell? ⟨q,0,none⟩=some (.int .i64 n):=h.1.cell 0;have z0:=h.1.frozen 0;have HH:=Jh1 h;have hw:IntKind.i64.wrap ((n:Int)+1)=(n:Int)+1:=by rw [IntKind.wrap_i64];omega
 clear h hl;go_enter func203,ntmps203
 go_wp2
 first | go_end0 | refine bodyPost_ret (results_none rfl _ _ _) rfl ?_
 refine ⟨rfl,⟨?_,HH.out.2⟩,(Below.refl B w).setCell (by exact HH.out.2) _⟩
 have:=HH.out.1.set 0 (.int .i64 ((n:Int)+1));simpa using this
theorem SegP.belowB {W W':World} {p g B:Nat} {r:Int} {L:List Int} (h:SegP W p g r L) (hb:Below B W W') (hp:p<B) (hg:g<B):SegP W' p g r L:=
 ⟨h.hp.below hb hp,h.hg.below hb hg,h.len,h.fit⟩
theorem Qyt (B q p g:Nat) (r:Int) (L:List Int) (a:Int) (w:World) (h:SegP w p g r L) (hp:p<B) (hg:g<B) (hl:LS B q w (Qau L a 0)) :
  Calls prog 202 #[.pointer (some ⟨p,0,none⟩),.int .u8 a,.func (.func 254) #[] #[.pointer (some ⟨q,0,none⟩)]] w λ e w'=>e=.returned (.tuple #[])/\LS B q w' (Qau L a L.length)/\Below B w w':=by
 obtain ⟨N,hN⟩:∃N,N=L.length:=⟨_,rfl⟩
 have c0:=h.c0;rw [<-hN] at c0;have HS:=Jh5 h hN hp hg hl;clear h hN hp hg hl;go_enter func202,ntmps202
 go_wp2
 go_loopw [13] (λ i wr=>∃k:Nat,i=.int .i64 k/\k<=N/\LS B q wr (Qau L a k)/\Below B w wr) (λ i wr=>N - (intOf i).toNat)
 case atStart=>exact ⟨0,rfl,Nat.zero_le _,(Jz4 HS),Below.refl _ _⟩
 case round=>
  obtain ⟨k,rfl,hk,hls,hbw⟩:=hrel;have HI:=Jh2 hls hbw;clear hls hbw;rcases Nat.lt_or_ge k N with hlt | hge
  ·have c1:=(HS.out.1.belowB HI.out.2 (J3 HS) (J4 HS)).at (i:=k) (by rw [<-(J2 HS)];exact hlt)
   obtain ⟨X,hX⟩:∃X,X=L.getD k 0:=⟨_,rfl⟩
   rw [<-hX] at c1;have HX:=Jh1 hX;have hw:IntKind.i64.wrap ((k:Int)+1)=(k:Int)+1:=by have:=HS.out.1.len.2;have:=(J2 HS);rw [IntKind.wrap_i64];omega
   clear hX;by_cases hq:X=a
   ·have HC:Hid (Calls prog 254 #[.int .i64 k,.pointer (some ⟨q,0,none⟩)] wr λ e w'=>e=.returned (.tuple #[])/\LS B q w' (Qau L a (k+1))/\Below B wr w'):=by
     show Calls _ _ _ _ _;have e1:Qau L a (k+1)=Qau L a k ++ [(k:Int)]:=by rw [Qb0,if_pos (by rw [<-HX.out];exact hq)]
     have e2:=Qc2 L a k;rw [e1];have e3:=HS.out.1.len.2;have e4:=(J2 HS)
     exact Qvu B q k _ wr HI.out.1 (by omega) (by omega)
    subst hq;clear HX;go_wp2_with (go_at_call 254;refine HC.out.mono ?_;rintro e w2 ⟨rfl,hl2,hb2⟩;have HJ:=Jh2 hl2 (HI.out.2.trans hb2);clear hl2 hb2)
    go_roundw
    case rel=>exact ⟨k+1,by simp,by omega,HJ.out.1,HJ.out.2⟩
    case measure=>simp [intOf];omega
   ·have e1:Qau L a (k+1)=Qau L a k:=by rw [Qb0,if_neg (by rw [<-HX.out];exact hq)]
    have HJ:Hid (LS B q wr (Qau L a (k+1))/\Below B w wr):=by show _/\_;rw [e1];exact HI.out
    clear e1;go_wp2
    go_roundw
    case rel=>exact ⟨k+1,by simp,by omega,HJ.out.1,HJ.out.2⟩
    case measure=>simp [intOf];omega
  ·obtain rfl:k=N:=by omega
   go_wp2
   first | go_end0 | refine bodyPost_ret (results_none rfl _ _ _) rfl ?_
   refine ⟨rfl,?_,HI.out.2⟩
   have:=HI.out.1;rw [(J2 HS)] at this;exact this
theorem Qyk (B q p g:Nat) (r:Int) (L:List Int) (a:Int) (w:World) (h:SegP w p g r L) (hp:p<B) (hg:g<B) (hl:CS B q w (Qau L a 0).length) :
  Calls prog 202 #[.pointer (some ⟨p,0,none⟩),.int .u8 a,.func (.func 203) #[] #[.pointer (some ⟨q,0,none⟩)]] w λ e w'=>e=.returned (.tuple #[])/\CS B q w' (Qau L a L.length).length/\Below B w w':=by
 obtain ⟨N,hN⟩:∃N,N=L.length:=⟨_,rfl⟩
 have c0:=h.c0;rw [<-hN] at c0;have HS:=Jh5 h hN hp hg hl;clear h hN hp hg hl;go_enter func202,ntmps202
 go_wp2
 go_loopw [13] (λ i wr=>∃k:Nat,i=.int .i64 k/\k<=N/\CS B q wr (Qau L a k).length/\Below B w wr) (λ i wr=>N - (intOf i).toNat)
 case atStart=>exact ⟨0,rfl,Nat.zero_le _,(Jz4 HS),Below.refl _ _⟩
 case round=>
  obtain ⟨k,rfl,hk,hls,hbw⟩:=hrel;have HI:=Jh2 hls hbw;clear hls hbw;rcases Nat.lt_or_ge k N with hlt | hge
  ·have c1:=(HS.out.1.belowB HI.out.2 (J3 HS) (J4 HS)).at (i:=k) (by rw [<-(J2 HS)];exact hlt)
   obtain ⟨X,hX⟩:∃X,X=L.getD k 0:=⟨_,rfl⟩
   rw [<-hX] at c1;have HX:=Jh1 hX;have hw:IntKind.i64.wrap ((k:Int)+1)=(k:Int)+1:=by have:=HS.out.1.len.2;have:=(J2 HS);rw [IntKind.wrap_i64];omega
   clear hX;by_cases hq:X=a
   ·have HC:Hid (Calls prog 203 #[.int .i64 k,.pointer (some ⟨q,0,none⟩)] wr λ e w'=>e=.returned (.tuple #[])/\CS B q w' (Qau L a (k+1)).length/\Below B wr w'):=by
     show Calls _ _ _ _ _;have e1:Qau L a (k+1)=Qau L a k ++ [(k:Int)]:=by rw [Qb0,if_pos (by rw [<-HX.out];exact hq)]
     have e2:=Qc2 L a k;rw [e1];have e3:=HS.out.1.len.2;have e4:=(J2 HS)
     rw [List.length_append,List.length_singleton];exact Qz0 B q k _ wr HI.out.1 (by omega)
    subst hq;clear HX;go_wp2_with (go_at_call 203;refine HC.out.mono ?_;rintro e w2 ⟨rfl,hl2,hb2⟩;have HJ:=Jh2 hl2 (HI.out.2.trans hb2);clear hl2 hb2)
    go_roundw
    case rel=>exact ⟨k+1,by simp,by omega,HJ.out.1,HJ.out.2⟩
    case measure=>simp [intOf];omega
   ·have e1:Qau L a (k+1)=Qau L a k:=by rw [Qb0,if_neg (by rw [<-HX.out];exact hq)]
    have HJ:Hid (CS B q wr (Qau L a (k+1)).length/\Below B w wr):=by show _/\_;rw [e1];exact HI.out
    clear e1;go_wp2
    go_roundw
    case rel=>exact ⟨k+1,by simp,by omega,HJ.out.1,HJ.out.2⟩
    case measure=>simp [intOf];omega
  ·obtain rfl:k=N:=by omega
   go_wp2
   first | go_end0 | refine bodyPost_ret (results_none rfl _ _ _) rfl ?_
   refine ⟨rfl,?_,HI.out.2⟩
   have:=HI.out.1;rw [(J2 HS)] at this;exact this
def Qvg (w:World) (xs:List Int) (e:Ending) (w':World):Prop:=
 ∃A c,e=.returned (.slice A xs.length c)/\w'.ownsRow w.heap.size 3 1 (.slice A xs.length c) xs.length (Qaj .i64 xs)/\Below w.heap.size w w'
theorem Qxp (p g:Nat) (r:Int) (L:List Int) (a:Int) (w:World) (h:SegP w p g r L) :
  Calls prog 204 #[.pointer (some ⟨p,0,none⟩),.int .u8 a] w λ e w'=>Qvg w (Qfy L a) e w':=by
 have hq:Blk (w.alloc (.cells #[.slice none 0 0] 103)) w.heap.size [.slice none 0 0] 103:=Blk.new' rfl rfl;have hb0:Below w.heap.size w (w.alloc (.cells #[.slice none 0 0] 103)):=(Below.refl _ _).alloc (Nat.le_refl _) _;have hls:LS w.heap.size w.heap.size (w.alloc (.cells #[.slice none 0 0] 103)) (Qau L a 0):=⟨none,0,hq,World.ownsRow_nil _ _ _ _,Nat.le_refl _,by simp⟩
 have hc:=Qyt w.heap.size w.heap.size p g r L a _ (h.belowB hb0 h.lt.1 h.lt.2) h.lt.1 h.lt.2 hls;have HC:=Jh1 @hc;have HB:=Jh1 hb0;clear hq hb0 hls hc h;go_enter func204,ntmps204
 go_wp2_with (go_at_call 202;refine HC.out.mono ?_;rintro e w2 ⟨rfl,⟨A,c,l1,l2,l3,l4⟩,hb2⟩;have c2:w2.cell? ⟨w.heap.size,0,none⟩=some (.slice A (Qau L a L.length).length c):=l1.cell 0;have HJ:=Jh2 l2 (HB.out.trans hb2);clear l1 l2 l3 l4 hb2)
 go_ret
 exact ⟨A,c,rfl,HJ.out.1,HJ.out.2⟩

def Qf0 (N k:Nat):List Int:=(newZ N).take k ++ List.replicate (N - k) 0
theorem Qf5 {N k:Nat} (h:2<=N) (hk:k<=N):(Qf0 N k).length=N:=by
 unfold Qf0;rw [List.length_append,List.length_take,Qcq h,List.length_replicate];omega
theorem Q1k {N k:Nat} (h:k<N) (h2:2<=N):(newZ N)[k]?=some (if k<2 then 4 else 1):=by
 unfold newZ;match k,h with
 | 0,_=>rfl
 | 1,_=>rfl
 | k+2,h=>
  rw [List.getElem?_cons_succ,List.getElem?_cons_succ,List.getElem?_replicate,if_pos (by omega),if_neg (by omega)]
theorem Qua {N k:Nat} (h:k<N) (h2:2<=N):(Qf0 N k).set k (if k<2 then 4 else 1)=Qf0 N (k+1):=by
 unfold Qf0;have hl:((newZ N).take k).length=k:=by rw [List.length_take,Qcq h2];omega
 rw [Qao (Q1k h h2),List.set_append_right _ _ (by omega),hl,Nat.sub_self];obtain ⟨m,hm⟩:∃m,N - k=m+1:=⟨N - k - 1,by omega⟩
 have hm':N - (k+1)=m:=by omega
 rw [hm,hm',List.replicate_succ,List.set_cons_zero,List.append_assoc];rfl
theorem Qxo (N:Nat) (h2:2<=N):Qf0 N N=newZ N:=by
 unfold Qf0;rw [Nat.sub_self,List.replicate_zero,List.append_nil,List.take_of_length_le (by rw [Qcq h2];omega)]
theorem Qug (N:Nat):Qf0 N 0=List.replicate N 0:=by simp [Qf0]
theorem Qrh (N:Nat):∀x∈newZ N,x=4\/x=1:=by
 intro x hx;simp only [newZ,List.mem_cons,List.mem_replicate] at hx
 omega
theorem Qy5 (N k:Nat):∀x∈Qf0 N k,Qaf x:=by
 intro x hx;unfold Qf0 at hx;rw [List.mem_append,List.mem_replicate] at hx;unfold Qaf;rcases hx with hx | hx
 ·have:=Qrh N x (List.mem_of_mem_take hx);omega
 ·omega
def Q32 (w:World) (s:Sh) (e:Ending) (w':World):Prop:=
 (¬Qat s/\e=.returned (.pointer none)/\Below w.heap.size w w')\/
 (Qat s/\∃p g,e=.returned (.pointer (some ⟨p,0,none⟩))/\SegP w' p g s.r (newZ s.z.toNat)/\w.heap.size<=p/\w.heap.size<=g/\Below w.heap.size w w')
theorem Quq (s:Sh) (w:World) (hz:-9223372036854775808<=s.z) :
  Calls prog 127 #[.agg (shL s).toArray] w λ e w'=>Q32 w s e w':=by
 have hr:=Qia s (w.alloc (.cells (shL s).toArray 23)) hz;obtain ⟨z,zb,b,r⟩:=s;obtain ⟨W,hW⟩:∃W,W=w.alloc (.cells (shL ⟨z,zb,b,r⟩).toArray 23):=⟨_,rfl⟩
 have bw:Below w.heap.size w W:=by rw [hW];exact (Below.refl _ _).alloc (Nat.le_refl _) _
 have hs:W.heap.size=w.heap.size+1:=by rw [hW];simp
 have hbk:Blk W w.heap.size (shL ⟨z,zb,b,r⟩) 23:=by rw [hW];exact Blk.new' rfl rfl
 rw [<-hW] at hr;have HH:=Jh3 bw hs hbk;have HW:=Jh1 hW;by_cases hR:Qat ⟨z,zb,b,r⟩
 ·rw [decide_eq_true hR] at hr
  have HR:=Jh1 @hr;have HQ:=Jh1 hR;clear hr hR hbk hs bw hW hz;simp only [shL] at *
  go_enter func127,ntmps127
  go_upto_region 3 with (go_at_call 91;rw [<-HW.out];refine HR.out.mono ?_;rintro e w1 ⟨rfl,hb1⟩)
  have hw1:Blk w1 w.heap.size [.int .i64 z,.int .i64 zb,.int .i64 b,.int .i64 r] 23:=(Jz2 HH).below hb1 (by have:=(J2 HH);omega);have c0:w1.cell? ⟨w.heap.size,0,none⟩=some (.int .i64 z):=hw1.cell 0;have c3:w1.cell? ⟨w.heap.size,3,none⟩=some (.int .i64 r):=hw1.cell 3;obtain ⟨N,hN⟩:∃N:Nat,z=N:=⟨z.toNat,by have:=HQ.out.1;simp only at this;omega⟩
  have hN1:6<=N/\N<=256:=by have:=HQ.out.1;have:=(J2 HQ);simp only at *;omega
  have c3':(w1.alloc (.cells (madeCells #[.int .u8 0] N) 5)).cell? ⟨w.heap.size,3,none⟩=some (.int .i64 r):=(hw1.alloc _).cell 3;clear hw1;subst hN;have hmk:=run_make_row' (P:=prog) 71 5 (.int .u8 0) 1 Tryz.underlying71 Tryz.zero_u8 rfl .i64 .i64 N (by omega) (by omega);go_region
  have hmade:=Qhe N w1;have hV0:SegP ((w1.alloc (.cells (madeCells #[.int .u8 0] N) 5)).alloc (.cells #[.slice (some ⟨w1.heap.size,0,none⟩) N N,.int .i64 r] 274)).drew (w1.heap.size+1) w1.heap.size r (Qf0 N 0):=by
   have e0:=Qf5 (N:=N) (k:=0) (by omega) (Nat.zero_le _);refine ⟨?_,?_,by rw [e0];omega,Qy5 N 0⟩
   ·rw [e0];exact (Blk.new' (by simp) rfl).drew
   ·rw [Qug];exact (hmade.alloc _).drew
  have hlo:w.heap.size<=w1.heap.size:=by have:=hb1.size;have:=(J2 HH);omega
  have hVb:Below w.heap.size w ((w1.alloc (.cells (madeCells #[.int .u8 0] N) 5)).alloc (.cells #[.slice (some ⟨w1.heap.size,0,none⟩) N N,.int .i64 r] 274)).drew:=
   (((HH.out.1.trans (Qfh hb1 (by have:=(J2 HH);omega))).alloc hlo _).alloc (by simp;omega) _).drew
  generalize hV:World.drew _=V at hV0 hVb ⊢;generalize hq:w1.heap.size=q at hV0 hlo ⊢;have HV:=Jh3 hV0 hlo hVb;have c4:V.cell? ⟨q+1,0,none⟩=some (.slice (some ⟨q,0,none⟩) N N):=by have:=hV0.c0;rwa [Qf5 (by omega) (Nat.zero_le _)] at this
  clear hV hq hV0 hlo hVb hmade hmk c0 c3 c3' hb1;go_wp2
  go_loopw [20] (λ i wr=>∃k:Nat,i=.int .i64 k/\k<=N/\SegP wr (q+1) q r (Qf0 N k)/\Below w.heap.size w wr) (λ i wr=>N - (intOf i).toNat)
  case atStart=>exact ⟨0,rfl,Nat.zero_le _,HV.out.1,(Jz2 HV)⟩
  case round=>
   obtain ⟨k,rfl,hk,hsg,hbw⟩:=hrel;have HI:=Jh2 hsg hbw;have hfl:=Qf5 (N:=N) (k:=k) (by omega) hk;have d0:=hsg.c0;rw [hfl] at d0;rcases Nat.lt_or_ge k N with hlt | hge
   ·have d1:=hsg.at (i:=k) (by rw [hfl];exact hlt)
    have d2:=hsg.free k;have hst:=λ (b:Int) (hb:Qaf b)=>hsg.set k hb
    have hw:IntKind.i64.wrap ((k:Int)+1)=(k:Int)+1:=by rw [IntKind.wrap_i64];omega
    generalize (Qf0 N k).getD k 0=X at d1;have HT:Hid (∀b:Int,Qaf b->b=(if k<2 then 4 else 1)->SegP (wr.setCell ⟨q,k,none⟩ (.int .u8 b)) (q+1) q r (Qf0 N (k+1))/\Below w.heap.size w (wr.setCell ⟨q,k,none⟩ (.int .u8 b))):=by
     intro b hb hbe;have:=hst b hb;rw [hbe,Qua hlt (by omega)] at this;rw [hbe];exact ⟨this,hbw.setCell (by exact (J2 HV)) _⟩
    clear hst hsg hbw hfl;by_cases h2:k<2
    ·have h2':(k:Int)<2:=by omega
     have H2:=Jh1 h2;clear h2;go_wp2
     go_roundw
     case rel=>exact ⟨k+1,by simp,by omega,(HT.out 4 (by unfold Qaf;omega) (by rw [if_pos H2.out])).1,(HT.out 4 (by unfold Qaf;omega) (by rw [if_pos H2.out])).2⟩
     case measure=>simp [intOf];omega
    ·have h2':¬(k:Int)<2:=by omega
     have H2:=Jh1 h2;clear h2;go_wp2
     go_roundw
     case rel=>exact ⟨k+1,by simp,by omega,(HT.out 1 (by unfold Qaf;omega) (by rw [if_neg H2.out])).1,(HT.out 1 (by unfold Qaf;omega) (by rw [if_neg H2.out])).2⟩
     case measure=>simp [intOf];omega
   ·obtain rfl:k=N:=by omega
    clear hsg hbw hfl;go_wp2
    go_ret
    refine .inr ⟨HQ.out,q+1,q,rfl,?_,by have:=(J2 HV);omega,(J2 HV),HI.out.2⟩
    have:=HI.out.1;rw [Qxo _ (by omega)] at this;exact this
 ·rw [decide_eq_false hR] at hr
  have HR:=Jh1 @hr;have HQ:=Jh1 hR;clear hr hR hbk hs bw hW hz;simp only [shL] at *
  go_enter func127,ntmps127
  go_wp2_with (go_at_call 91;rw [<-HW.out];refine HR.out.mono ?_;rintro e w1 ⟨rfl,hb1⟩)
  go_ret
  exact .inl ⟨HQ.out,rfl,HH.out.1.trans (Qfh hb1 (by have:=(J2 HH);omega))⟩
set_option maxHeartbeats 800000 in
theorem Q18 (p g:Nat) (r:Int) (L:List Int) (w:World) (h:SegP w p g r L) :
  Calls prog 135 #[.pointer (some ⟨p,0,none⟩)] w λ e w'=>e=.returned (.bool (lowB L r))/\Below w.heap.size w w':=by
 have hq:Blk (w.alloc (.cells #[.int .i64 0] 3)) w.heap.size [.int .i64 0] 3:=Blk.new' rfl rfl;have hb0:Below w.heap.size w (w.alloc (.cells #[.int .i64 0] 3)):=(Below.refl _ _).alloc (Nat.le_refl _) _;obtain ⟨W,hW⟩:∃W,W=w.alloc (.cells #[.int .i64 0] 3):=⟨_,rfl⟩
 rw [<-hW] at hq hb0;have hls:CS w.heap.size w.heap.size W (Qau L 1 0).length:=by
  have e0:Qau L 1 0=[]:=rfl;rw [e0];exact ⟨hq,Nat.le_refl _⟩
 have hc:=Qyk w.heap.size w.heap.size p g r L 1 _ (h.belowB hb0 h.lt.1 h.lt.2) h.lt.1 h.lt.2 hls;have HC:=Jh1 @hc;have HB:=Jh2 hb0 h;have HW:=Jh1 hW;clear hq hb0 hls hc h hW;go_enter func135,ntmps135
 go_wp2_with (go_at_call 202;try rw [<-HW.out];refine HC.out.mono ?_;rintro e w2 ⟨rfl,l1,hb2⟩;have c2:w2.cell? ⟨w.heap.size,0,none⟩=some (.int .i64 (Qau L 1 L.length).length):=l1.1.cell 0;have c3:w2.cell? ⟨p,1,none⟩=some (.int .i64 r):=(HB.out.2.belowB (HB.out.1.trans hb2) HB.out.2.lt.1 HB.out.2.lt.2).c1;have HJ:Hid (Below w.heap.size w w2):=HB.out.1.trans hb2;clear l1 hb2)
 go_quiet (fail)
 go_wp2
 go_ret
 exact ⟨by unfold lowB cntZ Qfy;rfl,Qe1 HJ.out _⟩

section
structure SegR (W:World) (p g c:Nat) (s:Sh) (L:List Int):Prop where
 hp:Blk W p [.int .i64 s.z,.int .i64 s.zb,.int .i64 s.b,.int .i64 s.r,.slice (some ⟨g,0,none⟩) L.length c] 305
 hg:W.ownsRow 0 5 1 (.slice (some ⟨g,0,none⟩) L.length c) L.length (u8s L)
 len:2<=L.length/\L.length<=256
 fit:∀x∈L,Qaf x
section
variable {W W':World} {p g c:Nat} {s:Sh} {L:List Int} {O:Nat->Prop}
theorem SegR.c3 (h:SegR W p g c s L):W.cell? ⟨p,3,none⟩=some (.int .i64 s.r):=h.hp.cell 3
theorem SegR.c4 (h:SegR W p g c s L):W.cell? ⟨p,4,none⟩=some (.slice (some ⟨g,0,none⟩) L.length c):=h.hp.cell 4
theorem SegR.at (h:SegR W p g c s L) {i:Nat} (hi:i<L.length):W.cell? ⟨g,i,none⟩=some (.int .u8 (L.getD i 0)):=by
 rw [h.hg.cellAt i (by simp;omega)];simp [u8s,List.getD,hi]
theorem SegR.free (h:SegR W p g c s L) (i:Nat):W.frozen? ⟨g,i,none⟩=false:=h.hg.frozenAt i
theorem SegR.lt (h:SegR W p g c s L):p<W.heap.size/\g<W.heap.size:=⟨h.hp.lt,(h.hg.lt g rfl).2⟩
theorem SegR.out (h:SegR W p g c s L) (ho:Out O W W') (h1:¬O p) (h2:¬O g):SegR W' p g c s L:=⟨ho.blk h.hp h1,ho.own h.hg (λ x e=>by cases e;exact h2),h.len,h.fit⟩
theorem SegR.under (h:SegR W p g c s L) (hb:Below W.heap.size W W'):SegR W' p g c s L:=h.out (Qab Non hb) (λ e=>e) (λ e=>e)
theorem SegR.drew (h:SegR W p g c s L):SegR W.drew p g c s L:=h.out (Out.refl Non W).drew (λ e=>e) (λ e=>e)
theorem SegR.ne (h:SegR W p g c s L):p≠g:=by
 rintro rfl;obtain ⟨cur,hc⟩:=Qaz h.hg (g:=p) rfl;have e2:some (Obj.cells _ 305 (0,0))=some (Obj.cells cur 5 (0,0)):=(h.hp:W.heap[p]?=_).symm.trans hc;simp at e2
theorem SegR.set (h:SegR W p g c s L) (i:Nat) {b:Int} (hb:Qaf b):SegR (W.setCell ⟨g,i,none⟩ (.int .u8 b)) p g c s (L.set i b):=by
 refine ⟨?_,?_,by simpa using h.len,λ x hx=>?_⟩
 ·have:=h.hp.set_other (a:=⟨g,i,none⟩) h.ne (.int .u8 b)
  simpa using this
 ·have:=(h.hg.stored i (.int .u8 b)).1
  rw [show (u8s L).set i (.int .u8 b)=u8s (L.set i b) by simp [u8s,List.map_set]] at this;simpa using this
 ·rcases List.mem_or_eq_of_mem_set hx with h' | rfl
  ·exact h.fit x h'
  ·exact hb
end
theorem Qs0 (p g c:Nat) (s:Sh) (L:List Int) (z:Int) (w:World) (h:SegR w p g c s L) :
  Calls prog 170 #[.pointer (some ⟨p,0,none⟩),.int .i64 z] w λ e w'=>e=.returned (.int .u8 (stZ L z))/\w'=w:=by
 have c0:=h.c4;obtain ⟨N,hN⟩:∃N,N=L.length:=⟨_,rfl⟩
 rw [<-hN] at c0;have HS:=Jh2 h hN;obtain ⟨S,hS⟩:∃S,S=stZ L z:=⟨_,rfl⟩
 rw [<-hS];have HZ:=Jh1 hS;clear h hS hN;rcases Int.lt_or_le z 0 with h0 | h0
 ·have e:S=0:=HZ.out.trans (Qey (.inl h0))
  subst e;go_enter func170,ntmps170
  go_wp2
  go_ret
  exact ⟨rfl,rfl⟩
 ·rcases Int.lt_or_le z N with h1 | h1
  ·obtain ⟨i,rfl⟩:∃i:Nat,z=i:=⟨z.toNat,by omega⟩
   have hi:i<L.length:=by have:=HS.out.2;omega
   have c1:w.cell? ⟨g,i,none⟩=some (.int .u8 S):=by rw [HZ.out,Qf3];exact HS.out.1.at hi
   clear h0 hi;have h1':i<N:=by omega
   go_enter func170,ntmps170
   go_wp2
   go_ret
   exact ⟨rfl,rfl⟩
  ·have e:S=0:=HZ.out.trans (Qey (.inr (by rw [<-HS.out.2];exact h1)))
   subst e;go_enter func170,ntmps170
   go_wp2
   go_ret
   exact ⟨rfl,rfl⟩
def Qeg (w:World) (p g c:Nat) (s:Sh) (L:List Int) (z a b:Int) (e:Ending) (w':World):Prop:=
 e=.returned (.bool (decide (stZ L z=a)))/\SegR w' p g c s (Qcm L z a b)/\Out (λ j=>j=g) w w'
theorem Qnr (p g c:Nat) (s:Sh) (L:List Int) (z a b:Int) (w:World) (h:SegR w p g c s L) (ha:a≠0) (hb:Qaf b) :
  Calls prog 231 #[.pointer (some ⟨p,0,none⟩),.int .i64 z,.int .u8 a,.int .u8 b] w λ e w'=>Qeg w p g c s L z a b e w':=by
 have c0:=h.c4;by_cases hq:stZ L z=a
 ·obtain ⟨z0,z1⟩:=Q0v hq ha
  obtain ⟨i,rfl⟩:∃i:Nat,z=i:=⟨z.toNat,by omega⟩
  have hi:i<L.length:=by omega
  have fin:Qeg w p g c s L i a b (.returned (.bool true)) (w.setCell ⟨g,i,none⟩ (.int .u8 b)):=by
   refine ⟨by rw [decide_eq_true hq],?_,Qdg _ _ _ _⟩
   unfold Qcm;rw [if_pos hq];exact h.set i hb
  have HF:=Jh1 fin;have c1:=h.at hi;have z2:=h.free i;rw [<-Qf3,hq] at c1;generalize hN:L.length=N at c0 hi;clear fin hq z0 z1 h hN ha hb;go_enter func231,ntmps231
  go_wp2
  go_ret
  exact HF.out
 ·have fin:Qeg w p g c s L z a b (.returned (.bool false)) w:=by
   refine ⟨by rw [decide_eq_false hq],?_,Out.refl _ _⟩
   unfold Qcm;rw [if_neg hq];exact h
  have HF:=Jh1 fin;obtain ⟨N,hN⟩:∃N,N=L.length:=⟨_,rfl⟩
  rw [<-hN] at c0;have HS:=Jh3 h hN hq;clear fin h hN ha hb hq;rcases Int.lt_or_le z 0 with h0 | h0
  ·go_enter func231,ntmps231
   go_wp2
   go_ret
   exact HF.out
  ·rcases Int.lt_or_le z N with h1 | h1
   ·obtain ⟨i,rfl⟩:∃i:Nat,z=i:=⟨z.toNat,by omega⟩
    have hi:i<L.length:=by have:=(J2 HS);omega
    obtain ⟨X,hX⟩:∃X,X=L.getD i 0:=⟨_,rfl⟩
    have c1:w.cell? ⟨g,i,none⟩=some (.int .u8 X):=by rw [hX];exact HS.out.1.at hi
    have hne0:¬X=a:=by rw [hX,<-Qf3];exact (Jz2 HS)
    have hne:(X != a)=true:=by simp [hne0]
    clear h0 hi hX hne0;have h1':i<N:=by omega
    go_enter func231,ntmps231
    go_wp2
    go_ret
    exact HF.out
   ·go_enter func231,ntmps231
    go_wp2
    go_ret
    exact HF.out
theorem Q3g (p g c:Nat) (s:Sh) (L:List Int) (z:Int) (w:World) (h:SegR w p g c s L) :
  Calls prog 184 #[.pointer (some ⟨p,0,none⟩),.int .i64 z] w λ e w'=>Qeg w p g c s L z 2 3 e w':=by
 have HT:Hid (Calls prog 231 #[.pointer (some ⟨p,0,none⟩),.int .i64 z,.int .u8 2,.int .u8 3] w λ e w'=>Qeg w p g c s L z 2 3 e w'):=Qnr p g c s L z 2 3 w h (by decide) (by unfold Qaf;omega);clear h;go_enter func184,ntmps184
 go_wp2_with (go_at_call 231;refine HT.out.mono ?_;rintro e w' ⟨rfl,h1,h2⟩)
 go_ret
 exact ⟨rfl,h1,h2⟩
theorem Qk2 (p g c:Nat) (s:Sh) (L:List Int) (z:Int) (w:World) (h:SegR w p g c s L) :
  Calls prog 166 #[.pointer (some ⟨p,0,none⟩),.int .i64 z] w λ e w'=>Qeg w p g c s L z 1 3 e w':=by
 have HT:Hid (Calls prog 231 #[.pointer (some ⟨p,0,none⟩),.int .i64 z,.int .u8 1,.int .u8 3] w λ e w'=>Qeg w p g c s L z 1 3 e w'):=Qnr p g c s L z 1 3 w h (by decide) (by unfold Qaf;omega);clear h;go_enter func166,ntmps166
 go_wp2_with (go_at_call 231;refine HT.out.mono ?_;rintro e w' ⟨rfl,h1,h2⟩)
 go_ret
 exact ⟨rfl,h1,h2⟩
end
theorem Quz (p g c:Nat) (s:Sh) (L:List Int) (a:Int) (w:World) (h:SegR w p g c s L) :
  Calls prog 179 #[.pointer (some ⟨p,0,none⟩),.int .u8 a] w λ e w'=>Qvg w (Qfy L a) e w':=by
 obtain ⟨N,hN⟩:∃N,N=L.length:=⟨_,rfl⟩
 have c0:=h.c4;rw [<-hN] at c0;have HS:=Jh2 h hN;clear h hN;go_enter func179,ntmps179
 go_wp2
 go_loopw [5,6] (λ x i wr=>∃(k:Nat) (A:Option Addr) (C:Nat),x=.slice A (Qau L a k).length C/\i=.int .i64 k/\k<=N/\wr.ownsRow w.heap.size 3 1 (.slice A (Qau L a k).length C) (Qau L a k).length (Qaj .i64 (Qau L a k))/\Below w.heap.size w wr) (λ _ i wr=>N - (intOf i).toNat)
 case atStart=>exact ⟨0,none,0,rfl,rfl,Nat.zero_le _,World.ownsRow_nil _ _ _ _,Below.refl _ _⟩
 case round=>
  obtain ⟨k,A,C,rfl,rfl,hk,ow,hb⟩:=hrel;rename World=>wq
  have HI:=Jh2 ow hb;have hs:=HS.out.1.under hb;have d0:=hs.c4;rw [<-HS.out.2] at d0;rcases Nat.lt_or_ge k N with hlt | hge
  ·have hkL:k<L.length:=by rw [<-HS.out.2];exact hlt
   have c1:=hs.at hkL;obtain ⟨X,hX⟩:∃X,X=L.getD k 0:=⟨_,rfl⟩
   rw [<-hX] at c1;have hw:IntKind.i64.wrap ((k:Int)+1)=(k:Int)+1:=by have:=HS.out.1.len.2;have:=HS.out.2;rw [IntKind.wrap_i64];omega
   have hll:=Qc2 L a k;have hN256:N<=256:=by rw [HS.out.2];exact HS.out.1.len.2
   have HX:Hid (X=L.getD k 0/\k<N/\(Qau L a k).length<=256/\k<=256):=⟨hX,hlt,by omega,by omega⟩
   have hsz:=hb.size;have HZ:=Jh1 hsz;clear hX hkL hs ow hb hk hll hN256 hsz;by_cases hq:X=a
   ·have HQ:=Jh1 hq
    subst hq;obtain ⟨ys,hys⟩:∃ys,ys=Qau L X k:=⟨_,rfl⟩
    rw [<-hys] at HI ⊢;have HY:Hid (ys=Qau L X k/\ys.length<=256):=⟨hys,by rw [hys];exact (J3 HX)⟩
    clear hys;generalize hn:ys.length=n at HI ⊢;have HN:Hid (ys.length=n/\n<=256):=⟨hn,by rw [<-hn];exact HY.out.2⟩
    clear hn;go_wp2_with (at_builtin;refine Qd8 (k:=.i64) Tryz.underlying103 Tryz.zero_int (by omega) rfl (.tmp 25) (.tmp 27) rfl w.heap.size A n C _ rfl (HI.out.1.alloc _) (some ⟨wq.heap.size,0,none⟩) 1 1 [(k:Int)] rfl (Qfz rfl rfl rfl (λ z hz=>by simp at hz;subst hz;exact wfI (by have:=(Jz3 HX);unfold F63;omega)) (by unfold maxLen;omega)) (λ h=>by cases h) (by have:=HN.out.2;omega) (by have:=HZ.out;simp;omega) ?_;intro a2 c2 w2 ow2 bl2;have HB:Hid (w2.ownsRow w.heap.size 3 1 (.slice a2 (n+1) c2) (n+1) (Qaj .i64 (ys ++ [(k:Int)]))/\Below w.heap.size w w2):=⟨ow2,(HI.out.2.alloc HZ.out _).trans bl2⟩;clear ow2 bl2)
    go_roundw
    case rel=>
     have e1:Qau L X (k+1)=ys ++ [(k:Int)]:=by rw [Qb0,if_pos HX.out.1.symm,HY.out.1]
     have e2:(ys ++ [(k:Int)]).length=n+1:=by simp [HN.out.1]
     exact ⟨k+1,a2,c2,by rw [e1,e2],by simp,by have:=(J2 HX);omega,by rw [e1,e2];exact HB.out.1,HB.out.2⟩
    case measure=>have:=(J2 HX);simp [intOf];omega
   ·have HQ:=Jh1 hq
    go_wp2
    go_roundw
    case rel=>
     have e1:Qau L a (k+1)=Qau L a k:=by rw [Qb0,if_neg (by rw [<-HX.out.1];exact HQ.out)]
     exact ⟨k+1,A,C,by rw [e1],by simp,by have:=(J2 HX);omega,by rw [e1];exact HI.out.1,HI.out.2⟩
    case measure=>have:=(J2 HX);simp [intOf];omega
  ·obtain rfl:k=N:=by omega
   clear hs ow hb hk;go_wp2
   go_ret
   refine ⟨A,C,?_,?_,HI.out.2⟩
   ·unfold Qfy;rw [<-HS.out.2];rfl
   ·unfold Qfy;rw [<-HS.out.2];exact HI.out.1
theorem Qyq (p g c:Nat) (s:Sh) (L:List Int) (w:World) (h:SegR w p g c s L) :
  Calls prog 232 #[.pointer (some ⟨p,0,none⟩)] w λ e w'=>e=.returned (.bool (lowB L s.r))/\Below w.heap.size w w':=by
 have c3:=h.c3;have HS:Hid (SegR w.drew p g c s L/\Below w.heap.size w w.drew):=⟨h.drew,(Below.refl _ _).drew⟩
 obtain ⟨K,hK⟩:∃K,K=(Qfy L 1).length:=⟨_,rfl⟩
 have HL:Hid (∀X,SegR X p g c s L->Calls prog 179 #[.pointer (some ⟨p,0,none⟩),.int .u8 1] X λ e w'=>∃A c,e=.returned (.slice A K c)/\Below X.heap.size X w'):=λ X hX=>by
  refine (Quz p g c s L 1 X hX).mono ?_
  rintro e w' ⟨A,c,h1,_,h3⟩;exact ⟨A,c,by rw [hK];exact h1,h3⟩
 have HK:Hid (lowB L s.r=decide ((K:Int)<=s.r)):=show _=_ by rw [hK];rfl
 clear hK h;go_enter func232,ntmps232
 go_wp2_with fail
 go_region_held3 (λ X=>X.cell? ⟨p,3,none⟩=some (.int .i64 s.r)) (first | exact c3 | exact d3)
  ((go_at_call 179;refine (HL.out _ HS.out.1).mono ?_;rintro e w2 ⟨A2,c2,rfl,hb2⟩;have HS2:Hid (Below w.heap.size w w2):=HS.out.2.trans (hb2.mono HS.out.2.size);have d3:=(HS.out.1.under hb2).c3;clear hb2))
 go_wp2
 go_ret
 exact ⟨by rw [HK.out];rfl,HS2.out⟩
theorem Quc {k:Nat} (h:2<=k):newZ (k+1)=newZ k ++ [1]:=by
 unfold newZ;have e:k+1 - 2=(k - 2)+1:=by omega
 rw [e,List.replicate_succ'];rfl
theorem Qwj (k:Nat):∀x∈newZ k,Qaf x:=λ x hx=>by
 have:=Qrh k x hx;unfold Qaf;omega
def Q2t (w:World) (s:Sh) (e:Ending) (w':World):Prop:=
 (¬Qat s/\e=.returned (.pointer none)/\Below w.heap.size w w')\/
 (Qat s/\∃p g c,e=.returned (.pointer (some ⟨p,0,none⟩))/\SegR w' p g c s (newZ s.z.toNat)/\w.heap.size<=p/\w.heap.size<=g/\Below w.heap.size w w')
structure NewSt (w wr:World) (q p g c k:Nat) (s:Sh):Prop where
 sh:Blk wr q (shL s) 23
 st:Blk wr p [.int .i64 s.z,.int .i64 s.zb,.int .i64 s.b,.int .i64 s.r,.slice (some ⟨g,0,none⟩) k c] 305
 row:wr.ownsRow w.heap.size 5 1 (.slice (some ⟨g,0,none⟩) k c) k (Qaj .u8 (newZ k))
 hp:w.heap.size<=p
 bel:Below w.heap.size w wr
theorem NewSt.drewN {w wr:World} {q p g c k:Nat} {s:Sh} (h:NewSt w wr q p g c k s) (n:Nat):NewSt w (wr.drewN n) q p g c k s:=
 ⟨h.sh.drewN n,h.st.drewN n,h.row,h.hp,Qe1 h.bel n⟩
theorem Qyj (s:Sh) (w:World) (hz:-9223372036854775808<=s.z) :
  Calls prog 165 #[.agg (shL s).toArray] w λ e w'=>Q2t w s e w':=by
 have hr:=Qj1 s (w.alloc (.cells (shL s).toArray 23)) hz;obtain ⟨z,zb,b,r⟩:=s;obtain ⟨W,hW⟩:∃W,W=w.alloc (.cells (shL ⟨z,zb,b,r⟩).toArray 23):=⟨_,rfl⟩
 have bw:Below w.heap.size w W:=by rw [hW];exact (Below.refl _ _).alloc (Nat.le_refl _) _
 have hs:W.heap.size=w.heap.size+1:=by rw [hW];simp
 have hbk:Blk W w.heap.size (shL ⟨z,zb,b,r⟩) 23:=by rw [hW];exact Blk.new' rfl rfl
 rw [<-hW] at hr;have HH:=Jh3 bw hs hbk;have HW:=Jh1 hW;by_cases hR:Qat ⟨z,zb,b,r⟩
 ·rw [decide_eq_true hR] at hr
  have HR:=Jh1 @hr;have HQ:=Jh1 hR;clear hr hR hbk hs bw hW hz;simp only [shL] at *
  go_enter func165,ntmps165
  go_upto_region 4 with (go_at_call 42;rw [<-HW.out];refine HR.out.mono ?_;rintro e w1 ⟨rfl,hb1⟩)
  have hw1:Blk w1 w.heap.size [.int .i64 z,.int .i64 zb,.int .i64 b,.int .i64 r] 23:=(Jz2 HH).below hb1 (by have:=(J2 HH);omega);have c0:w1.cell? ⟨w.heap.size,0,none⟩=some (.int .i64 z):=hw1.cell 0;have c1:w1.cell? ⟨w.heap.size,1,none⟩=some (.int .i64 zb):=hw1.cell 1;have c2:w1.cell? ⟨w.heap.size,2,none⟩=some (.int .i64 b):=hw1.cell 2;have c3:w1.cell? ⟨w.heap.size,3,none⟩=some (.int .i64 r):=hw1.cell 3;obtain ⟨N,hN⟩:∃N:Nat,z=N:=⟨z.toNat,by have:=HQ.out.1;simp only at this;omega⟩
  have hN1:6<=N/\N<=256:=by have:=HQ.out.1;have:=(J2 HQ);simp only at *;omega
  have HW1:Hid (Blk w1 w.heap.size [.int .i64 z,.int .i64 zb,.int .i64 b,.int .i64 r] 23/\Below w.heap.size w w1/\w.heap.size<=w1.heap.size):=⟨hw1,HH.out.1.trans (Qfh hb1 (by have:=(J2 HH);omega)),by have:=hb1.size;have:=(J2 HH);omega⟩
  clear hw1 hb1;subst hN;have hst0:NewSt w ((w1.alloc (.cells #[.int .u8 4,.int .u8 4] 5)).alloc (.cells #[.int .i64 (N:Int),.int .i64 zb,.int .i64 b,.int .i64 r,.slice (some ⟨w1.heap.size,0,none⟩) 2 2] 305)) w.heap.size (w1.heap.size+1) w1.heap.size 2 2 ⟨N,zb,b,r⟩:=by
   have hb2:Blk (w1.alloc (.cells #[.int .u8 4,.int .u8 4] 5)) w1.heap.size (Qaj .u8 (newZ 2)) 5:=Blk.new' rfl rfl;refine ⟨(HW1.out.1.alloc _).alloc _,Blk.new' (by simp) rfl,Qw9 _ (hb2.alloc _) rfl (by unfold maxLen;omega) (Jz2 HW1),by have:=(Jz2 HW1);omega,?_⟩
   exact (((J2 HW1).alloc (Jz2 HW1) _).alloc (by have:=(Jz2 HW1);simp;omega) _)
  have HST:=Jh1 hst0;clear hst0;go_wp2
  generalize hV:World.alloc (World.alloc w1 _) _=V at HST ⊢;generalize hp:w1.heap.size+1=p at HST ⊢;generalize hg:w1.heap.size=g at HST ⊢;generalize hq:w.heap.size=q at HST ⊢;have HqE:=Jh1 hq;clear hV hp hg c0 c1 c2 c3 HW1 HR HW HH hq;go_loopw [13] (λ x wr=>∃(k g c:Nat),2<=k/\k<=N/\NewSt w wr q p g c k ⟨N,zb,b,r⟩) (λ x wr=>match wr.cell? ⟨p,4,none⟩ with | some (.slice _ n _)=>N - n | _=>0)
  case atStart=>exact ⟨2,_,_,Nat.le_refl _,by omega,HST.out⟩
  case round=>
   obtain ⟨k,g',c,hk2,hk,hst⟩:=hrel;clear HST;have hall:=λ n=>hst.drewN n
   have HA:=Jh1 @hall;have d0:wr.cell? ⟨q,0,none⟩=some (.int .i64 (N:Int)):=hst.sh.cell 0;have d4:wr.cell? ⟨p,4,none⟩=some (.slice (some ⟨g',0,none⟩) k c):=hst.st.cell 4;have HM:=Jh1 d4;have HK:=Jh3 hk2 hk hN1.2;clear hall hst;rcases Nat.lt_or_ge k N with hlt | hge
   ·have HL:=Jh1 hlt
    clear hk hk2 hN1;go_wp2
    go_quiet (fail)
    have hv:=HA.out nq;generalize hV:World.drewN _ _=V' at hv ⊢;have v4:V'.cell? ⟨p,4,none⟩=some (.slice (some ⟨g',0,none⟩) k c):=hv.st.cell 4;have HV:=Jh2 hv hv.bel.size;clear hv hV d0 d4;go_wp2_with (at_builtin;refine Qdp (k:=.u8) Tryz.underlying71 Tryz.zero_u8 (by omega) rfl (.tmp 25) (.tmp 26) rfl w.heap.size (some ⟨g',0,none⟩) k c _ rfl (HV.out.1.row.alloc _) (some ⟨V'.heap.size,0,none⟩) 1 1 [1] rfl (Qfz rfl rfl rfl (λ z hz=>by simp at hz;subst hz;exact wf8 (by unfold Qaf;omega)) (by unfold maxLen;omega)) (λ h=>by cases h) (by have:=HK.out;omega) (by have:=HV.out.2;simp;omega) ?_;intro a2 c2 w2 ow2 bl2 gr2;have hb2:Blk w2 p [.int .i64 (N:Int),.int .i64 zb,.int .i64 b,.int .i64 r,.slice (some ⟨g',0,none⟩) k c] 305:=(HV.out.1.st.alloc _).grownR gr2 (Qcp HV.out.1.row HV.out.1.st (by decide));have hs2:=(HV.out.1.sh.alloc (.cells #[.int .u8 1] 5)).grownR gr2 (Qcp HV.out.1.row HV.out.1.sh (by decide));have u4:w2.cell? ⟨p,4,none⟩=some (.slice (some ⟨g',0,none⟩) k c):=hb2.cell 4;have z4:=hb2.frozen 4;have HB:Hid (Blk w2 p [.int .i64 (N:Int),.int .i64 zb,.int .i64 b,.int .i64 r,.slice (some ⟨g',0,none⟩) k c] 305/\Blk w2 q (shL ⟨N,zb,b,r⟩) 23/\w2.ownsRow w.heap.size 5 1 (.slice a2 (k+1) c2) (k+1) (Qaj .u8 (newZ k ++ [1]))/\Below w.heap.size w w2):=⟨hb2,hs2,ow2,(HV.out.1.bel.alloc HV.out.2 _).trans bl2⟩;clear hb2 hs2 ow2 bl2 gr2)
    obtain ⟨g2,hg2⟩:∃g2,a2=some ⟨g2,0,none⟩:=by
     rcases (J3 HB).2 with ⟨hv,hn⟩ | ⟨g2,cap,cur,hv,_⟩
     ·omega
     ·cases hv;exact ⟨g2,rfl⟩
    subst hg2;have hnew:NewSt w (w2.setCell ⟨p,4,none⟩ (.slice (some ⟨g2,0,none⟩) (k+1) c2)) q p g2 c2 (k+1) ⟨N,zb,b,r⟩:=by
     refine ⟨(J2 HB).set_other (blk_ne' (J2 HB) HB.out.1 (by decide)) _,HB.out.1.set 4 _,?_,HV.out.1.hp,(Jz3 HB).setCell (by exact HV.out.1.hp) _⟩
     rw [Quc HK.out.1];exact (Qdg w2 p 4 _).own (J3 HB) (λ x hx e=>Qcp (J3 HB) HB.out.1 (by decide) (by rw [<-e];exact hx))
    have HNew:=Jh1 hnew;clear hnew;go_roundw
    case rel=>exact ⟨k+1,g2,c2,by have:=HK.out.1;omega,by have:=HL.out;omega,HNew.out⟩
    case measure=>
     have m4:(w2.setCell ⟨p,4,none⟩ (.slice (some ⟨g2,0,none⟩) (k+1) c2)).cell? ⟨p,4,none⟩=some (.slice (some ⟨g2,0,none⟩) (k+1) c2):=HNew.out.st.cell 4;rw [m4,HM.out];have:=HL.out;simp only
     omega
   ·obtain rfl:k=N:=by omega
    clear hk hk2 hN1;go_wp2
    go_quiet (fail)
    have hv:=HA.out nq;generalize hV:World.drewN _ _=V' at hv ⊢;have HV:=Jh1 hv;clear hv hV d0 d4;go_wp2
    go_ret
    refine .inr ⟨HQ.out,p,g',c,rfl,?_,HV.out.hp,(HV.out.row.lt g' rfl).1,HV.out.bel⟩
    have e:((k:Int)).toNat=k:=by omega
    have el:=Qcq HK.out.1;show SegR V' p g' c ⟨k,zb,b,r⟩ (newZ ((k:Int)).toNat);rw [e];refine ⟨?_,?_,by rw [el];have:=HK.out;omega,Qwj k⟩
    ·rw [el];exact HV.out.st
    ·rw [el];exact Qbh HV.out.row
 ·rw [decide_eq_false hR] at hr
  have HR:=Jh1 @hr;have HQ:=Jh1 hR;clear hr hR hbk hs bw hW hz;simp only [shL] at *
  go_enter func165,ntmps165
  go_wp2_with (go_at_call 42;rw [<-HW.out];refine HR.out.mono ?_;rintro e w1 ⟨rfl,hb1⟩)
  go_ret
  exact .inl ⟨HQ.out,rfl,HH.out.1.trans (Qfh hb1 (by have:=(J2 HH);omega))⟩
theorem Qo0 (a b:Option Addr) (n c d:Nat) (xs:List Int) (w:World) (ha:NIn .i64 w a n xs) (hb:NIn .i64 w b n xs) :
  Calls prog 47 #[.slice a n c,.slice b n d] w λ e w'=>e=.returned (.bool true)/\Below w.heap.size w w':=by
 have HA:=Jh2 ha hb;clear ha hb;go_enter func47,ntmps47
 go_wp2
 go_loopw [5] (λ i wr=>∃k j:Nat,i=.int .i64 k/\k<=n/\wr=w.drewN j) (λ i wr=>n - (intOf i).toNat)
 case atStart=>exact ⟨0,0,rfl,Nat.zero_le _,rfl⟩
 case round=>
  obtain ⟨k,j,rfl,hk,rfl⟩:=hrel;rcases Nat.lt_or_ge k n with hlt | hge
  ·obtain ⟨ga,oa,rfl,hca⟩:=HA.out.1.2.2.2.resolve_left (by omega)
   obtain ⟨gb,ob,rfl,hcb⟩:=(Jz4 HA).resolve_left (by omega);have c1:(w.drewN j).cell? ⟨ga,oa+k,none⟩=some (.int .i64 (xs.getD k 0)):=hca k hlt;have c2:(w.drewN j).cell? ⟨gb,ob+k,none⟩=some (.int .i64 (xs.getD k 0)):=hcb k hlt;have hw:IntKind.i64.wrap ((k:Int)+1)=(k:Int)+1:=by have:=HA.out.1.2.1;unfold maxLen at this;rw [IntKind.wrap_i64];omega
   have HK:=Jh1 hlt;generalize xs.getD k 0=y at c1 c2;clear hca hcb hk;generalize hV:World.drewN w j=V at c1 c2 ⊢;have HV:=Jh1 hV;clear hV;go_wp2
   go_quiet (fail)
   go_wp2
   go_roundw
   case rel=>exact ⟨k+1,j+nq,by simp,by have:=HK.out;omega,by rw [<-HV.out,World.drewN_drewN]⟩
   case measure=>have:=HK.out;simp [intOf];omega
  ·obtain rfl:k=n:=by omega
   go_wp2
   go_ret
   exact ⟨rfl,Qe1 (Below.refl _ _) _⟩
end Go.Proofs.YtcdnjeiamihhbaaGreat

/- P8 -/
import Derived.Test.YtcdnjeiamihhbaaGreatP7
set_option linter.unusedVariables false
set_option maxRecDepth 4000
open Go.Proofs.Tryz
namespace Go.Proofs.YtcdnjeiamihhbaaGreat
open Go.RowKit Go.Shelf
theorem BsIn.at {W:World} {a:Option Addr} {n:Nat} {bs:List (List Int)} (h:BsIn W a n bs) {i:Nat} {D:List Int} (hi:bs[i]?=some D):∃b off A L C,a=some ⟨b,off,none⟩/\W.cell? ⟨b,off+i,none⟩=some (.slice A L C)/\BIn W A L D/\(A=none->L=0/\C=0)/\L<=C/\L<=100000:=by
 obtain ⟨b,off,ha,hc⟩:=h.2.2.resolve_left (by have:=(List.getElem?_eq_some_iff.1 hi).1;have:=h.1;omega);obtain ⟨v,h1,A,L,C,rfl,h2,h3,h4,h5⟩:=hc i D hi;exact ⟨b,off,A,L,C,ha,h1,h2,h3,h4,h5⟩
theorem Qof {l l':List (List Int)} {i:Nat} {D:List Int} (h:l.take i=l'.take i) (h1:l[i]?=some D) (h2:l'[i]?=some D):l.take (i+1)=l'.take (i+1):=by
 rw [List.take_add_one,List.take_add_one,h,h1,h2]
set_option maxHeartbeats 2000000 in
theorem Q3q (a:Option Addr) (n c:Nat) (l:List (List Int)) (b:Option Addr) (m d:Nat) (l':List (List Int)) (w:World) (hx:BsIn w a n l) (hy:BsIn w b m l') :
  Calls prog 191 #[.slice a n c,.slice b m d,.func (.func 192) #[] #[]] w λ e w'=>e=.returned (.bool (decide (l=l')))/\w'=w:=by
 obtain ⟨B,hB⟩:∃B,B=decide (l=l'):=⟨_,rfl⟩
 rw [<-hB];have H:=Jh3 hx hy hB;have hn:=hx.2.1;have hm:=hy.2.1;clear hx hy hB;by_cases hnm:n=m
 ·subst hnm
  go_enter func191,ntmps191
  go_wp2
  go_loopw [17] (λ x wr=>∃i:Nat,x=.int .i64 i/\i<=n/\wr=w/\l.take i=l'.take i) (λ x _=>n - (intOf x).toNat)
  case atStart=>exact ⟨0,rfl,Nat.zero_le _,rfl,by simp⟩
  case round=>
   obtain ⟨i,rfl,hi,rfl,hti⟩:=hrel;rcases Nat.lt_or_ge i n with hlt | hge
   ·obtain ⟨D,hD⟩:∃D,l[i]?=some D:=⟨l[i]'(by have:=H.out.1.1;omega),by simp⟩
    obtain ⟨D',hD'⟩:∃D',l'[i]?=some D':=⟨l'[i]'(by have:=(J2 H).1;omega),by simp⟩
    obtain ⟨b1,o1,A1,L1,C1,rfl,k1,k2,_⟩:=H.out.1.at hD;obtain ⟨b2,o2,A2,L2,C2,rfl,j1,j2,_⟩:=(J2 H).at hD';have hi':(i:Int)<n:=by omega
    have hwi:IntKind.i64.wrap ((i:Int)+1)=(i:Int)+1:=by rw [IntKind.wrap_i64];omega
    have hE:=Qr0 A1 L1 C1 D A2 L2 C2 D' wr k2 j2;have HD:=Jh3 hD hD' hti;by_cases hDD:D=D'
    ·rw [decide_eq_true hDD] at hE
     have HE:=Jh1 @hE;have HT:Hid (l.take (i+1)=l'.take (i+1)):=Qof hti hD (by rw [hDD];exact hD');clear hE hDD hD hD' hti k2 j2;go_wp2_with (go_at_call 192;refine HE.out.mono ?_;rintro e wz ⟨rfl,hw⟩;replace hw:=hw.symm;subst hw)
     go_roundw
     case rel=>exact ⟨i+1,by simp,by omega,by first | rfl | trivial,HT.out⟩
     case measure=>simp [intOf];omega
    ·rw [decide_eq_false hDD] at hE
     have HE:=Jh1 @hE;have HF:Hid (B=false):=by
      show B=false;rw [(Jz2 H)];refine decide_eq_false (λ e=>hDD ?_)
      rw [e,hD'] at hD;exact (Option.some.inj hD).symm
     clear hE hDD hD hD' hti k2 j2;go_wp2_with (go_at_call 192;refine HE.out.mono ?_;rintro e wz ⟨rfl,hw⟩;replace hw:=hw.symm;subst hw)
     go_ret
     exact ⟨by rw [HF.out];rfl,rfl⟩
   ·obtain rfl:i=n:=by omega
    have HT:Hid (B=true):=by
     show B=true;rw [(Jz2 H)];refine decide_eq_true ?_
     rw [List.take_of_length_le (by rw [H.out.1.1];exact Nat.le_refl _),List.take_of_length_le (by rw [(J2 H).1];exact Nat.le_refl _)] at hti;exact hti
    clear hti;go_wp2
    go_ret
    exact ⟨by rw [HT.out];rfl,rfl⟩
 ·have h1:¬(n:Int)=m:=by omega
  have HF:Hid (B=false):=by
   show B=false;rw [(Jz2 H)];refine decide_eq_false (λ e=>hnm ?_)
   rw [<-H.out.1.1,<-(J2 H).1,e]
  go_enter func191,ntmps191
  go_wp2
  go_ret
  exact ⟨by rw [HF.out];rfl,rfl⟩
section
theorem Qdi {W:World} {g:Nat} {L:List Value} {t e:TypeId} (hb:Blk W g L t) (ht:t≠e) {B s n:Nat} {v:Value} {xs:List Value} (hr:W.ownsRow B e s v n xs) (i:Nat) (u:Value):(W.setCell ⟨g,i,none⟩ u).ownsRow B e s v n xs:=
 (Qc1 W g i u).own hr (λ r hg e'=>Qcd hb ht hr (by rw [hg,e']))
theorem Qgm {W W':World} {B e s n:Nat} {v:Value} {xs:List Value} (hr:W.ownsRow B e s v n xs) (hb:Below W.heap.size W W'):W'.ownsRow B e s v n xs:=(Qab Non hb).own hr (λ _ _=>id)
def OkB (s:Sh) (b:List Int):Prop:=(b.length:Int)=s.b/\rkM b=1129009236/\26+16*(rkN b).toNat<=b.length
def RdK (s:Sh) (l:List (List Int)):Prop:=Qat s/\(l.length:Int)<=s.zb/\∀b∈l,OkB s b
def Qoy (w:World) (s:Sh) (l:List (List Int)) (e:Ending) (w':World):Prop:=
 Below w.heap.size w w'/\((¬RdK s l/\e=Qdm noCk)\/(RdK s l/\∃A n C,e=.returned (.agg #[.int .u64 (Qa0 l),.slice A n C])/\KIn w' A n (Qaw l)/\n<=C))
theorem Tryz.info_state:(prog.info? 82).map (·.size)=some 2:=by kernel_rfl
structure OSt (q:Nat) (w wr:World) (q5:Nat) (s:Sh) (seq:Int) (A:Option Addr) (N C:Nat) (xs:List Pl):Prop where
 shp:Blk wr q (shL s) 23
 res:Blk wr (q+1) [.int .u64 0,.slice none 0 0] 82
 rc:Blk wr q5 [.int .u64 seq,.slice A N C] 82
 own:wr.ownsRow (q5+1) 137 4 (.slice A N C) N (plC xs)
 bel:Below q w wr
 lt:q+2<=q5
 heap:q=w.heap.size
section
variable {q:Nat} {w wr w':World} {q5:Nat} {s:Sh} {seq:Int} {A:Option Addr} {N C:Nat} {xs:List Pl}
theorem OSt.below (h:OSt q w wr q5 s seq A N C xs) (hb:Below wr.heap.size wr w'):OSt q w w' q5 s seq A N C xs:=by
 have h1:=h.rc.lt;have h2:=h.lt;exact ⟨h.shp.below hb h.shp.lt,h.res.below hb h.res.lt,h.rc.below hb h1,Qgm h.own hb,h.bel.trans (hb.mono (by omega)),h2,h.heap⟩
theorem OSt.left {g:Nat} {L:List Value} (h:OSt q w wr q5 s seq A N C xs) (hg:Blk wr g L 309) (hq:q<=g) (i:Nat) (u:Value):OSt q w (wr.setCell ⟨g,i,none⟩ u) q5 s seq A N C xs:=
 ⟨h.shp.set_other (Qbq h.shp hg (by decide)) _,h.res.set_other (Qbq h.res hg (by decide)) _,h.rc.set_other (Qbq h.rc hg (by decide)) _,Qdi hg (by decide) h.own i u,h.bel.setCell (p:=⟨g,i,none⟩) hq _,h.lt,h.heap⟩
theorem OSt.setSeq (h:OSt q w wr q5 s seq A N C xs) (z:Int):OSt q w (wr.setCell ⟨q5,0,none⟩ (.int .u64 z)) q5 s z A N C xs:=by
 have h2:=h.lt;exact ⟨h.shp.set_other (by show q≠q5;omega) _,h.res.set_other (by show q+1≠q5;omega) _,h.rc.set 0 _,Qdi h.rc (by decide) h.own 0 _,h.bel.setCell (p:=⟨q5,0,none⟩) (by show q<=q5;omega) _,h2,h.heap⟩
theorem OSt.more {A':Option Addr} {C':Nat} {x:Pl} (h:OSt q w wr q5 s seq A N C xs) (ho:w'.ownsRow (q5+1) 137 4 (.slice A' (N+1) C') (N+1) (plC (xs ++ [x]))) (hb:Below (q5+1) wr w'):OSt q w (w'.setCell ⟨q5,1,none⟩ (.slice A' (N+1) C')) q5 s seq A' (N+1) C' (xs ++ [x]):=by
 have h2:=h.lt;have rc':=h.rc.below hb (by omega);exact ⟨(h.shp.below hb (by omega)).set_other (by show q≠q5;omega) _,(h.res.below hb (by omega)).set_other (by show q+1≠q5;omega) _,rc'.set 1 _,Qdi rc' (by decide) ho 1 _,(h.bel.trans (hb.mono (by omega))).setCell (p:=⟨q5,1,none⟩) (by show q<=q5;omega) _,h2,h.heap⟩
end
structure KSt (q:Nat) (w wr:World) (q5 q8:Nat) (s:Sh) (seq:Int) (A:Option Addr) (N C:Nat) (xs:List Pl) (L:Option Addr) (m c:Nat) (ys:List Int):Prop where
 o:OSt q w wr q5 s seq A N C xs
 left:Blk wr q8 [.slice L m c] 309
 bin:BIn w L m ys
 nil:L=none->m=0/\c=0
 cap:m<=c
 lt:q<=q8
section
variable {q:Nat} {w wr w':World} {q5 q8:Nat} {s:Sh} {seq:Int} {A:Option Addr} {N C:Nat} {xs:List Pl} {L:Option Addr} {m c:Nat} {ys:List Int}
theorem KSt.below (h:KSt q w wr q5 q8 s seq A N C xs L m c ys) (hb:Below wr.heap.size wr w'):KSt q w w' q5 q8 s seq A N C xs L m c ys:=⟨h.o.below hb,h.left.below hb h.left.lt,h.bin,h.nil,h.cap,h.lt⟩
theorem KSt.binr (h:KSt q w wr q5 q8 s seq A N C xs L m c ys):BIn wr L m ys:=h.bin.below (by rw [<-h.o.heap];exact h.o.bel)
theorem KSt.took (h:KSt q w wr q5 q8 s seq A N C xs L m c ys) (k:Nat) (hk:k<=m):∃L',Qcz L m c k=.slice L' (m - k) (c - k)/\KSt q w (wr.setCell ⟨q8,0,none⟩ (.slice L' (m - k) (c - k))) q5 q8 s seq A N C xs L' (m - k) (c - k) (ys.drop k):=
 ⟨_,rfl,h.o.left h.left h.lt 0 _,h.left.set 0 _,(NIn.back h.bin.n k hk h.cap).b,Qjo hk h.nil,by have:=h.cap;omega,h.lt⟩
theorem KSt.more {A':Option Addr} {C':Nat} {x:Pl} {o:Obj} (h:KSt q w wr q5 q8 s seq A N C xs L m c ys) (ho:w'.ownsRow (q5+1) 137 4 (.slice A' (N+1) C') (N+1) (plC (xs ++ [x]))) (hb:Below (q5+1) wr w') (hg:(wr.alloc o).grownBy w' (Value.ownBlock (.slice A N C))):KSt q w (w'.setCell ⟨q5,1,none⟩ (.slice A' (N+1) C')) q5 q8 s seq A' (N+1) C' (xs ++ [x]) L m c ys:=by
 have l':Blk w' q8 [.slice L m c] 309:=(h.left.alloc o).grown (by decide) (h.o.own.alloc o) hg;have rc':=h.o.rc.below hb (by omega);exact ⟨h.o.more ho hb,l'.set_other (Qbq l' rc' (by decide)) _,h.bin,h.nil,h.cap,h.lt⟩
end
def DiedK (w:World) (s:Sh) (l:List (List Int)) (e:Exit) (a:Act) (w':World):Prop:=e=.panic [{v:=.iface 9 (.string noCk),recovered:=false}]/\a.defers=[]/\Qoy w s l (Qdm noCk) w'
theorem DiedK.put {w:World} {s:Sh} {l:List (List Int)} {e:Exit} {a:Act} {w':World} {v:Value} {d:Nat} (h:DiedK w s l e (a.put (some d) v) w'):DiedK w s l e a w':=h
theorem Qgw {w w':World} {s:Sh} {l:List (List Int)} (hb:Below w.heap.size w w') (h:¬RdK s l):Qoy w s l (Qdm noCk) w':=⟨hb,.inl ⟨h,rfl⟩⟩
set_option maxHeartbeats 8000000 in
theorem Qxx (s:Sh) (a:Option Addr) (n c:Nat) (l:List (List Int)) (w:World) (hz:-9223372036854775808<=s.z) (hl:BsIn w a n l) :
  Calls prog 190 #[.agg (shL s).toArray,.slice a n c] w (Qoy w s l):=by
 obtain ⟨q,hq⟩:∃q,q=w.heap.size:=⟨_,rfl⟩
 have HW:Hid (Blk ((w.alloc (.cells #[.int .i64 s.z,.int .i64 s.zb,.int .i64 s.b,.int .i64 s.r] 23)).alloc (.cells #[.int .u64 0,.slice none 0 0] 82)) q (shL s) 23/\Blk ((w.alloc (.cells #[.int .i64 s.z,.int .i64 s.zb,.int .i64 s.b,.int .i64 s.r] 23)).alloc (.cells #[.int .u64 0,.slice none 0 0] 82)) (q+1) [.int .u64 0,.slice none 0 0] 82/\Below q w ((w.alloc (.cells #[.int .i64 s.z,.int .i64 s.zb,.int .i64 s.b,.int .i64 s.r] 23)).alloc (.cells #[.int .u64 0,.slice none 0 0] 82))):=
  ⟨(Blk.new' hq.symm rfl).alloc _,Blk.new' (by simp [hq]) rfl,((Below.refl _ _).alloc (by omega) _).alloc (by simp;omega) _⟩
 have H:=Jh3 hl hq hz;have hn5:n<=100000:=hl.2.1;clear hl hz;simp only [shL]
 go_enter func190,ntmps190
 go_upto_region 1 with fail
 rw [<-hq];clear hq;generalize hW:World.alloc (World.alloc w _) _=W at HW ⊢;clear hW;have c0:W.cell? ⟨q,0,none⟩=some (.int .i64 s.z):=HW.out.1.cell 0;have c1:W.cell? ⟨q,1,none⟩=some (.int .i64 s.zb):=HW.out.1.cell 1;have c2:W.cell? ⟨q,2,none⟩=some (.int .i64 s.b):=HW.out.1.cell 2;have c3:W.cell? ⟨q,3,none⟩=some (.int .i64 s.r):=HW.out.1.cell 3;have hR:Calls prog 91 #[.agg #[.int .i64 s.z,.int .i64 s.zb,.int .i64 s.b,.int .i64 s.r]] W λ e w'=>e=.returned (.bool (decide (Qat s)))/\Below W.heap.size W w':=Qia s W (Jz2 H)
 by_cases hr:Qat s
 ·rw [decide_eq_true hr] at hR
  have HR:=Jh1 @hR;have HS:=Jh1 hr;clear hR hr;by_cases hbig:(n:Int)<=s.zb
  ·have hbf:decide (s.zb<(n:Int))=false:=by simp;omega
   have HBg:=Jh1 hbig;clear hbig;go_wp2_with (go_at_call 91;refine HR.out.mono ?_;rintro e W1 ⟨rfl,b1⟩;have c1':W1.cell? ⟨q,1,none⟩=some (.int .i64 s.zb):=(HW.out.1.below b1 HW.out.1.lt).cell 1)
   obtain ⟨q5,hq5⟩:∃q5,q5=W1.heap.size:=⟨_,rfl⟩
   have st0:OSt q w (W1.alloc (.cells #[.int .u64 0,.slice none 0 0] 82)) q5 s 0 none 0 0 []:=by
    have k0:=HW.out.1.below b1 HW.out.1.lt;have k1:=(J2 HW).below b1 (J2 HW).lt;have hsz:=k1.lt;exact ⟨k0.alloc _,k1.alloc _,Blk.new' hq5.symm rfl,World.ownsRow_nil _ _ _ _,((Jz2 HW).trans (b1.mono (by have:=HW.out.1.lt;omega))).alloc (by omega) _,by omega,(J2 H)⟩
   rw [<-hq5];clear hq5 b1 c0 c1 c2 c3 c1';generalize hW2:World.alloc W1 _=W2 at st0 ⊢;have H0:=Jh1 st0;have hbp:=Qar (show s.b∈PowR from (J5 HS));have hzb4:=(J4 HS)
   have HP:=Jh3 hbp.1 hbp.2 hzb4;clear st0 hW2 hbp hzb4;go_loopw [23] (λ x wr=>∃(i:Nat) (A:Option Addr) (N C:Nat),x=.int .i64 i/\i<=n/\OSt q w wr q5 s (Qa0 (l.take i)) A N C (Qaw (l.take i))/\(∀b∈l.take i,OkB s b)/\N<=254*i) (λ x _=>n - (intOf x).toNat)
   case atStart=>exact ⟨0,none,0,0,rfl,Nat.zero_le _,by simpa [Qa0,Qaw] using H0.out,by simp,by omega⟩
   case round=>
    obtain ⟨i,A,N,C,rfl,hi,st,hok,hN⟩:=hrel;obtain ⟨wo,hwo⟩:∃wo:World,wo=wr:=⟨_,rfl⟩
    subst hwo;rcases Nat.lt_or_ge i n with hlt | hge
    ·obtain ⟨D,hD⟩:∃D,l[i]?=some D:=⟨l[i]'(by have:=H.out.1.1;omega),by simp⟩
     obtain ⟨b',off,A1,L1,C1,hA,k1,k2,k3,k4,k5⟩:=(H.out.1.below (by rw [<-(J2 H)];exact st.bel)).at hD;subst hA;obtain ⟨_,_,A2,L2,C2,hA2,k1',k2',_⟩:=H.out.1.at hD;have hk2:BIn w A1 L1 D:=by
      cases hA2
      have e1:wo.cell? ⟨b',off+i,none⟩=some (.slice A2 L2 C2):=by rw [(show Below w.heap.size w wo by rw [<-(J2 H)];exact st.bel).cell (Qaa k1')];exact k1'
      rw [k1] at e1;cases e1
      exact k2'
     have hi':(i:Int)<n:=by omega
     have hwi:IntKind.i64.wrap ((i:Int)+1)=(i:Int)+1:=by rw [IntKind.wrap_i64];omega
     have hLD:D.length=L1:=k2.1;have s2:wo.cell? ⟨q,2,none⟩=some (.int .i64 s.b):=st.shp.cell 2;have HD:=Jh8 hD hLD hk2 k3 k4 k5 hok hN;clear hD hLD hk2 k2 k3 k4 k5 hok hN hA2 k1' k2';by_cases hLb:(L1:Int)=s.b
     ·have hLn:64<=L1/\L1<=4096:=by have:=HP.out;omega
      obtain ⟨q8,hq8⟩:∃q8,q8=wo.heap.size:=⟨_,rfl⟩
      have b8:Below wo.heap.size wo (wo.alloc (.cells #[.slice A1 L1 C1] 309)):=(Below.refl _ _).alloc (Nat.le_refl _) _;have st8:KSt q w (wo.alloc (.cells #[.slice A1 L1 C1] 309)) q5 q8 s (Qa0 (l.take i)) A N C (Qaw (l.take i)) A1 L1 C1 D:=⟨st.below b8,Blk.new' hq8.symm rfl,(J3 HD),(J4 HD),(J5 HD),by have:=st.rc.lt;have:=st.lt;omega⟩
      have HLb:Hid ((L1:Int)=s.b/\64<=L1/\L1<=4096/\q5<q8):=⟨hLb,hLn.1,hLn.2,by rw [hq8];exact st.rc.lt⟩
      have hbq:((L1:Int) != s.b)=false:=by rw [hLb];simp
      clear st b8 hLb hLn;go_upto_region 10 with fail
      rw [<-hq8];clear hq8 k1 s2 hbq;generalize hW8:World.alloc wo _=W8 at st8 ⊢;have H8:=Jh1 st8;clear st8 hW8;go_wp2_with fail
      refine (Qlm W8).mono ?_
      rintro e V1 ⟨rfl,rfl⟩;go_wp2_with fail
      have b1:Below W8.heap.size W8 (W8.alloc (.cells #[.int .i64 4,.int .i64 4,.int .i64 4,.int .i64 4,.int .i64 8,.int .i64 2] 3)):=(Below.refl _ _).alloc (Nat.le_refl _) _;have n1:=Qjt (w:=W8) rfl;generalize hV1:World.alloc W8 _=V1 at n1 b1 ⊢;have t1:=H8.out.below b1;refine (Qro q8 A1 L1 C1 26 D (some ⟨W8.heap.size,0,none⟩) 6 6 hkW V1 off_hk.symm (t1.left.cell 0) (t1.left.frozen 0) t1.binr t1.nil t1.cap n1 (by have:=HLb.out;omega) (by omega)).mono ?_
      rintro e W3 (⟨hen,A3,k3,C3,W2',rfl,b2,rfl,ow⟩ | ⟨hfew,_,_⟩);rotate_left
      ·exact absurd hfew (by rw [off_hk];have:=HLb.out;omega)
      rw [off_hk] at hen ⊢;rw [Q0q] at ow;have t2:=t1.below b2;obtain ⟨L0,eL0,t3⟩:=t2.took 26 hen;have ow3:=Qdi t2.left (by decide) ow 0 (Qcz A1 L1 C1 26);rw [eL0] at ow3 ⊢;generalize hW3:World.setCell W2' _ _=W3 at ow3 t3 ⊢;obtain ⟨g,rfl,hk,hg,hkC,hc⟩:=Qer ow3 (by simp);have hk6:k3=6:=by simpa using hk
      subst hk6;have c0:W3.cell? ⟨g,0,none⟩=some (.int .u64 (rkM D)):=hc 0 (by simp);have c4:W3.cell? ⟨g,4,none⟩=some (.int .u64 (Qfp D)):=hc 4 (by simp);have c5:W3.cell? ⟨g,5,none⟩=some (.int .u64 (rkN D)):=hc 5 (by simp);have hNf:=Qqv (J3 HD).2.2.1;have hIf:=Qie (rkN D).toNat (ys:=D.drop 26) (λ z hz=>(J3 HD).2.2.1 z (List.mem_of_mem_drop hz));obtain ⟨M,hM⟩:∃M,M=rkM D:=⟨_,rfl⟩
      obtain ⟨S,hS⟩:∃S,S=Qfp D:=⟨_,rfl⟩
      obtain ⟨K,hK⟩:∃K:Nat,rkN D=K:=⟨(rkN D).toNat,by have:=hNf.1;omega⟩
      rw [<-hM] at c0;rw [<-hS] at c4;rw [hK] at c5;have hKs:K<65536:=by have:=hNf.2;omega
      have hgq:g≠q5:=by have:=t1.o.rc.lt;omega
      have H3:=Jh1 t3;have HF:Hid (M=rkM D/\S=Qfp D/\rkN D=K/\(∀x∈rkL K (D.drop 26),Fit2 x)/\rkPs D=rkL K (D.drop 26)):=⟨hM,hS,hK,by rw [hK] at hIf;exact hIf,by unfold rkPs;rw [hK];rfl⟩
      clear ow ow3 t1 t2 t3 hW3 hk hg hkC hc hNf hIf hM hS hK b2 n1 b1 hV1 eL0 hen;by_cases hMm:M=1129009236
      ·have HM:=Jh1 hMm
       have hMb:(M != 1129009236)=false:=by rw [hMm];rfl
       have r0:W3.cell? ⟨q5,0,none⟩=some (.int .u64 (Qa0 (l.take i))):=H3.out.o.rc.cell 0;have z0:=H3.out.o.rc.frozen 0;have st5:KSt q w (W3.setCell ⟨q5,0,none⟩ (.int .u64 S)) q5 q8 s S A N C (Qaw (l.take i)) L0 (L1 - 26) (C1 - 26) (D.drop 26):=⟨H3.out.o.setSeq S,H3.out.left.set_other (Qbq H3.out.left H3.out.o.rc (by decide)) _,H3.out.bin,H3.out.nil,H3.out.cap,H3.out.lt⟩
       have c5':(W3.setCell ⟨q5,0,none⟩ (.int .u64 S)).cell? ⟨g,5,none⟩=some (.int .u64 (K:Int)):=Qa1 c5 hgq;clear hMm;go_upto_region 14 with fail
       generalize hW5:World.setCell W3 _ _=W5 at st5 c5' ⊢;have H5:=Jh1 st5;clear st5 c0 c4 c5 hMb hW5 r0 z0;go_wp2
       go_loopw [49] (λ x wr=>∃(j:Nat) (A':Option Addr) (N' C':Nat) (L:Option Addr) (m' c'':Nat),x=.int .u64 j/\j<=K/\26+16*j+m'=L1/\N'=N+j/\KSt q w wr q5 q8 s S A' N' C' (Qaw (l.take i) ++ rkL j (D.drop 26)) L m' c'' (D.drop (26+16*j))) (λ x _=>K - (intOf x).toNat)
       case atStart=>exact ⟨0,A,N,C,L0,L1 - 26,C1 - 26,rfl,Nat.zero_le _,by have:=HLb.out;omega,by omega,by simpa [rkL] using H5.out⟩
       case round=>
        obtain ⟨j,A',N',C',L,m',c'',rfl,hj,hmn,hN',st⟩:=hrel;rcases Nat.lt_or_ge j K with hlt2 | hge2
        ·have hj':(j:Int)<K:=by omega
         have hwj:IntKind.u64.wrap ((j:Int)+1)=(j:Int)+1:=by rw [IntKind.wrap_u64];omega
         have v1:wr.cell? ⟨q5,1,none⟩=some (.slice A' N' C'):=st.o.rc.cell 1;have v2:∀o,(wr.alloc o).cell? ⟨q5,1,none⟩=some (.slice A' N' C'):=λ o=>(st.o.rc.alloc o).cell 1
         have hST:=Jh3 st hmn hN';have hTk:Hid (∀(V:World) (b:Nat),V=(wr.alloc (.cells #[.int .i64 4,.int .i64 8,.int .i64 2,.int .i64 2] 3)).drew->b=wr.heap.size->Calls prog 238 #[.pointer (some ⟨q8,0,none⟩),.int .i64 16,.slice (some ⟨b,0,none⟩) 4 4] V (Q28 q8 L m' c'' (D.drop (26+16*j)) plW V)):=by
          intro V b hV hb;subst hb;have sV:KSt q w V q5 q8 s S A' N' C' (Qaw (l.take i) ++ rkL j (D.drop 26)) L m' c'' (D.drop (26+16*j)):=st.below (by rw [hV];exact ((Below.refl _ _).alloc (Nat.le_refl _) _).drew);exact Qro q8 L m' c'' 16 _ _ 4 4 plW V off_pl.symm (sV.left.cell 0) (sV.left.frozen 0) sV.binr sV.nil sV.cap (by rw [hV];exact (Qnt rfl).drew) (by have:=HLb.out;omega) (by omega)
         have hN'b:N'+1<=10000000:=by have:=(Jz7 HD);have:=HBg.out;have:=HP.out;omega
         clear st hmn hN';by_cases hm16:16<=m'
         ·obtain ⟨X,hX⟩:∃X,X=rkP (D.drop (26+16*j)):=⟨_,rfl⟩
          have hXf:Fit2 X:=by rw [hX];exact Qme (λ z hz=>(J3 HD).2.2.1 z (List.mem_of_mem_drop hz))
          have HX:=Jh4 hX hXf hm16 hN'b;have hnx:Hid (rkL (j+1) (D.drop 26)=rkL j (D.drop 26) ++ [X]):=by
           show _=_;rw [Qmf,List.drop_drop,<-hX]
          clear hX hXf hm16 hN'b;go_wp2
          go_region_law (first
           | (go_simp;go_at_call 213;refine (Qhk _).mono ?_;rintro e V1 ⟨rfl,rfl⟩)
           | (go_simp;go_at_call 238;refine (hTk.out _ _ rfl rfl).mono ?_;rintro e V3 (⟨_,A2,k2,C2,V2,rfl,b2,rfl,ow2⟩ | ⟨hfew,_,_⟩);rotate_left;(exact absurd (J3 HX) (by rw [off_pl] at hfew;omega));rw [Q1b,<-HX.out.1] at ow2;rw [off_pl];have stV2:=hST.out.1.below (((Below.refl _ _).alloc (Nat.le_refl _) _).drew.trans (b2.mono (by simp)));have stV:=stV2.took 16 (J3 HX);have ow3:=Qdi stV2.left (by decide) ow2 0 (Qcz L m' c'' 16);obtain ⟨L',eL,st3⟩:=stV;rw [eL] at ow3 ⊢;generalize World.setCell V2 _ _=V3 at st3 ow3 ⊢;obtain ⟨gN,eA,hk4,_,_,hcN⟩:=Qer ow3 (by simp [plV]);cases eA;have hk4':k2=4:=(by simpa [plV] using hk4);subst hk4';clear hk4;have n0:V3.cell? ⟨gN,0,none⟩=some (.int .u64 X.1.1):=hcN 0 (by simp [plV]);have n1:V3.cell? ⟨gN,1,none⟩=some (.int .u64 X.1.2):=hcN 1 (by simp [plV]);have n2:V3.cell? ⟨gN,2,none⟩=some (.int .u64 X.2.1):=hcN 2 (by simp [plV]);have n3:V3.cell? ⟨gN,3,none⟩=some (.int .u64 X.2.2):=hcN 3 (by simp [plV]);have m1:V3.cell? ⟨q5,1,none⟩=some (.slice A' N' C'):=st3.o.rc.cell 1)
           | (go_simp;go_at_call 239;refine (Qts gN C2 X _ n0 n1 n2 n3 (J2 HX)).mono ?_;rintro e V4 ⟨rfl,b4⟩;have st4:=st3.below b4;have m2:V4.cell? ⟨q5,1,none⟩=some (.slice A' N' C'):=st4.o.rc.cell 1;have m3:∀o,(V4.alloc o).cell? ⟨q5,1,none⟩=some (.slice A' N' C'):=λ o=>(st4.o.rc.alloc o).cell 1;obtain ⟨a9,c9,w9,e9,o9,b9,g9⟩:=Qm6 st4.o.own X (Jz3 HX) (by have:=st4.o.rc.lt;omega);have rc9:=st4.o.rc.below b9 (by omega);have m4:w9.cell? ⟨q5,1,none⟩=some (.slice A' N' C'):=rc9.cell 1;have m5:=rc9.frozen 1;have st9:=st4.more o9 b9 g9)
           | (refine Qaq rfl (.tmp 52) (.tmp 56) 77 77 rfl _ _ rfl rfl _ _ e9 ?_))
          all_goals (
           have H9:Hid (KSt q w (w9.setCell ⟨q5,1,none⟩ (.slice a9 (N'+1) c9)) q5 q8 s S a9 (N'+1) c9 (Qaw (l.take i) ++ rkL (j+1) (D.drop 26)) L' (m' - 16) (c'' - 16) (D.drop (26+16*(j+1)))):=by
            rw [List.drop_drop,List.append_assoc,<-hnx.out] at st9;exact st9
           clear e9 o9 b9 g9 rc9 m4 m5 st9 st4 b4 m2 m3 st3 ow3 ow2 b2 n0 n1 n2 n3 m1 hcN v1 v2 eL stV2;generalize World.setCell w9 _ _=V9 at H9 ⊢;go_wp2
           go_roundw
           case rel=>exact ⟨j+1,a9,N'+1,c9,L',m' - 16,c'' - 16,by simp,by omega,by have:=(Jz2 HX);have:=hST.out.2;omega,by have:=(Jz2 hST);omega,H9.out⟩
           case measure=>simp [intOf];omega)
         ·have HNo:Hid (¬RdK s l/\m'<16):=⟨λ h=>by
           have h1:=(h.2.2 D (List.mem_of_getElem? HD.out.1)).2.2;rw [(J3 HF),(J2 HD)] at h1;have:=(J2 hST)
           omega,by omega⟩
          clear hm16 hN'b;have HPP:Hid (∀V3,Below (wr.alloc (.cells #[.int .i64 4,.int .i64 8,.int .i64 2,.int .i64 2] 3)).drew.heap.size (wr.alloc (.cells #[.int .i64 4,.int .i64 8,.int .i64 2,.int .i64 2] 3)).drew V3->Qoy w s l (Qdm noCk) V3):=λ V3 b2=>Qgw (by rw [<-(J2 H)];exact hST.out.1.o.bel.trans (((Below.refl _ _).alloc (by have:=hST.out.1.o.rc.lt;have:=hST.out.1.o.lt;omega) _).drew.trans (b2.mono (by have:=hST.out.1.o.rc.lt;have:=hST.out.1.o.lt;simp;omega)))) HNo.out.1
          go_wp2
          refine Code.wp_mono (Q:=DiedK w s l) ?_ ?_
          ·rintro e ⟨tmps,defers⟩ w' ⟨rfl,h2,h3⟩
           dsimp only at h2
           subst h2;exact ⟨rfl,h3⟩
          ·refine wp_region_held_drew (S:=λ V=>V.cell? ⟨q5,1,none⟩=some (.slice A' N' C')) (by kernel_rfl) (by exact v1) (λ hS=>?_)
           refine wpAnyH_take (i:=0) (oi:={dst:=some 51,op:=Op.fieldAddr 82 (Operand.tmp 5) 1,type:=0,pos:="ckpt.go:204",after:=#[],guard:=none}) (v:=.pointer (some ⟨q5,1,none⟩)) rfl (by kernel_rfl) (by kernel_rfl) (by kernel_rfl) (λ _ _ _ h=>DiedK.put h) (Or.inl ⟨by rfl,λ w hw=>by go_simp⟩) hS ?_
           simp only [Act.put,List.setIfInBounds_toArray,List.set_cons_zero,List.set_cons_succ]
           refine wpAnyH_take (i:=1) (oi:={dst:=some 52,op:=Op.load 77 (Operand.tmp 51),type:=77,pos:="ckpt.go:204",after:=#[{on:=0,ground:=Ground.data}],guard:=none}) (v:=.slice A' N' C') rfl (by kernel_rfl) (by kernel_rfl) (by kernel_rfl) (λ _ _ _ h=>DiedK.put h) (Or.inl ⟨by rfl,λ w hw=>by go_simp⟩) hS ?_
           simp only [Act.put,List.setIfInBounds_toArray,List.set_cons_zero,List.set_cons_succ]
           refine wpAnyH_ready (rs:=[2]) (by kernel_rfl) (by simp) (AllReadyH.cons (o:={dst:=some 53,op:=Op.call {callee:=Callee.value (Operand.func 213),args:=#[],argTypes:=#[]},type:=103,pos:="ckpt.go:204",after:=#[],guard:=none}) rfl (λ KK hK=>?_) AllReadyH.nil)
           go_simp
           refine (Qhk _).mono ?_
           rintro e V1 ⟨rfl,rfl⟩;refine hK.out _ _ (by exact v2 _) (λ hS'=>?_)
           clear hK KK hS';refine wpAnyH_ready (rs:=[3]) (by kernel_rfl) (by simp) (AllReadyH.cons (o:={dst:=some 54,op:=Op.call {callee:=Callee.value (Operand.func 238),args:=#[Operand.tmp 8,Operand.const (Value.int IntKind.i64 16),Operand.tmp 53],argTypes:=#[309,3,103]},type:=46,pos:="ckpt.go:204",after:=#[{on:=2,ground:=Ground.data},{on:=2,ground:=Ground.chain}],guard:=none}) rfl (λ KK hK=>?_) AllReadyH.nil)
           go_simp
           refine (hTk.out _ _ rfl rfl).mono ?_
           rintro e V3 (⟨hen2,_⟩ | ⟨_,he,b2⟩)
           ·exact absurd HNo.out.2 (by rw [off_pl] at hen2;omega)
           ·unfold Qdm at he
            subst he;exact ⟨rfl,rfl,HPP.out V3 b2⟩
        ·obtain rfl:j=K:=by omega
         have HG:Hid (OSt q w wr q5 s (Qa0 (l.take (i+1))) A' N' C' (Qaw (l.take (i+1)))/\(∀b∈l.take (i+1),OkB s b)/\N'<=254*(i+1)):=by
          have hsnoc:=Qao HD.out.1;have hok:OkB s D:=⟨by rw [(J2 HD)];exact HLb.out.1,HF.out.1.symm.trans HM.out,by rw [(J3 HF),(J2 HD)];omega⟩
          refine ⟨?_,?_,?_⟩
          ·rw [hsnoc,Qeb,Qkb,(Jz4 HF),<-(J2 HF)]
           exact st.o
          ·intro b hb
           rw [hsnoc] at hb;rcases List.mem_append.1 hb with h | h
           ·exact (J7 HD) b h
           ·simp at h;rw [h];exact hok
          ·have:=(Jz7 HD);have:=HLb.out;omega
         clear st hmn hN';go_wp2
         go_roundw
         case rel=>exact ⟨i+1,A',N',C',by simp,by omega,HG.out⟩
         case measure=>simp [intOf];omega
      ·have hMb:(M != 1129009236)=true:=by simp [hMm]
       have HN:Hid (Qoy w s l (Qdm noCk) W3):=Qgw (by rw [<-(J2 H)];exact H3.out.o.bel) (λ h=>hMm (HF.out.1.trans (h.2.2 D (List.mem_of_getElem? HD.out.1)).2.1));clear hMm;go_wp2
       exact ⟨rfl,HN.out⟩
     ·have HN:Hid (Qoy w s l (Qdm noCk) wo):=Qgw (by rw [<-(J2 H)];exact st.bel) (λ h=>hLb (by have:=(h.2.2 D (List.mem_of_getElem? HD.out.1)).1;rw [(J2 HD)] at this;exact this))
      clear st;go_wp2
      exact ⟨rfl,HN.out⟩
    ·obtain rfl:i=n:=by omega
     have htk:l.take i=l:=List.take_of_length_le (by rw [H.out.1.1];exact Nat.le_refl _);rw [htk] at st hok;have k0:wo.cell? ⟨q5,0,none⟩=some (.int .u64 (Qa0 l)):=st.rc.cell 0;have k1:wo.cell? ⟨q5,1,none⟩=some (.slice A N C):=st.rc.cell 1;have d0:wo.cell? ⟨q+1,0,none⟩=some (.int .u64 0):=st.res.cell 0;have d1:wo.cell? ⟨q+1,1,none⟩=some (.slice none 0 0):=st.res.cell 1;have z0:=st.res.frozen 0;have z1:=st.res.frozen 1;have bR:Blk ((wo.setCell ⟨q+1,0,none⟩ (.int .u64 (Qa0 l))).setCell ⟨q+1,1,none⟩ (.slice A N C)) (q+1) [.int .u64 (Qa0 l),.slice A N C] 82:=(st.res.set 0 _).set 1 _;have oR:=Qdi (st.res.set 0 (.int .u64 (Qa0 l))) (by decide) (Qdi st.res (by decide) st.own 0 (.int .u64 (Qa0 l))) 1 (.slice A N C);have bel9:=(st.bel.setCell (p:=⟨q+1,0,none⟩) (by show q<=q+1;omega) (.int .u64 (Qa0 l))).setCell (p:=⟨q+1,1,none⟩) (by show q<=q+1;omega) (.slice A N C);have HZ:Hid (Blk ((wo.setCell ⟨q+1,0,none⟩ (.int .u64 (Qa0 l))).setCell ⟨q+1,1,none⟩ (.slice A N C)) (q+1) [.int .u64 (Qa0 l),.slice A N C] 82/\Qoy w s l (.returned (.agg #[.int .u64 (Qa0 l),.slice A N C])) ((wo.setCell ⟨q+1,0,none⟩ (.int .u64 (Qa0 l))).setCell ⟨q+1,1,none⟩ (.slice A N C))):=by
      refine ⟨bR,by rw [<-(J2 H)];exact bel9,.inr ⟨⟨HS.out,by rw [H.out.1.1];exact HBg.out,hok⟩,A,N,C,rfl,?_,(Qev oR).1⟩⟩
      refine Qj3 oR (by unfold maxLen;omega) (λ x hx=>?_)
      obtain ⟨b,hb,hx⟩:=List.mem_flatMap.1 hx;obtain ⟨j,hj⟩:=List.getElem?_of_mem hb;obtain ⟨_,_,_,_,_,_,_,hbin,_⟩:=H.out.1.at hj;exact (Qie _ (λ z hz=>hbin.2.2.1 z (List.mem_of_mem_drop hz)) x hx).fits
     clear bR oR bel9 st hok hN;go_wp2
     exact bodyPost_ret (Qap (p:=4) (ty:=82) rfl _ _ (q+1) _ _ _ rfl HZ.out.1 Tryz.underlying82 rfl Tryz.info_state) rfl HZ.out.2
  ·have hbig':s.zb<(n:Int):=by omega
   have HN:Hid (¬RdK s l):=λ h=>by have:=h.2.1;rw [H.out.1.1] at this;omega
   clear hbig;go_wp2_with (go_at_call 91;refine HR.out.mono ?_;rintro e W1 ⟨rfl,b1⟩;have c1':W1.cell? ⟨q,1,none⟩=some (.int .i64 s.zb):=(HW.out.1.below b1 HW.out.1.lt).cell 1)
   exact ⟨rfl,Qgw (by rw [<-(J2 H)];exact (Jz2 HW).trans (b1.mono (by have:=HW.out.1.lt;omega))) HN.out⟩
 ·rw [decide_eq_false hr] at hR
  have HR:=Jh1 @hR;have HN:Hid (¬RdK s l):=λ h=>hr h.1
  clear hR hr;go_wp2_with (go_at_call 91;refine HR.out.mono ?_;rintro e W1 ⟨rfl,b1⟩)
  exact ⟨rfl,Qgw (by rw [<-(J2 H)];exact (Jz2 HW).trans (b1.mono (by have:=HW.out.1.lt;omega))) HN.out⟩
end
open Classical in
noncomputable def dkE (s:Sh) (l:List (List Int)):Int:=if IsK s l then 0 else 141
open Classical in
noncomputable def dkS (s:Sh) (l:List (List Int)):Int:=if IsK s l then Qa0 l else 0
open Classical in
noncomputable def dkX (s:Sh) (l:List (List Int)):List Pl:=if IsK s l then Qaw l else []
def DecK (w:World) (s:Sh) (l:List (List Int)) (e:Ending) (w':World):Prop:=
 ∃A n C,e=.returned (.tuple #[.agg #[.int .u64 (dkS s l),.slice A n C],.int .u16 (dkE s l)])/\KIn w' A n (dkX s l)/\n<=C/\Below w.heap.size w w'
theorem Quv {s:Sh} {l:List (List Int)} (h:IsK s l) (hf:∀b∈l,∀z∈b,Qaf z):RdK s l:=by
 obtain ⟨hg,hm⟩:=Qb2.1 h.1;have hr:=Qcv hg.1;have hp:=Qar (show s.b∈PowR from hg.1.2.2.2.2.1);refine ⟨hg.1,by rw [h.length];exact hm,λ b hb=>?_⟩
 obtain ⟨i,hi⟩:=List.getElem?_of_mem hb;obtain ⟨h1,_,_,_,h5,_,h7,_⟩:=h.each hf hi;exact ⟨by rw [h7];omega,h1,by rw [h7];omega⟩
theorem Ql7 {w:World} {a:Option Addr} {n:Nat} {l:List (List Int)} (h:BsIn w a n l):∀b∈l,∀z∈b,Qaf z:=by
 intro b hb;obtain ⟨i,hi⟩:=List.getElem?_of_mem hb;obtain ⟨_,_,_,_,_,_,_,hbin,_⟩:=h.at hi;exact hbin.2.2.1
theorem Qnk (p q:Addr) (w:World) :
  CallsD prog 189 #[.pointer (some p),.pointer (some q)] .returning w λ e u' w'=>e=.returned (.tuple #[])/\u'=.returning/\w'=w:=by
 refine callsD_of_wpS func189 rfl λ c₀ cs hu=>?_
 apply wpS_seq
 apply wpS_region
 simp [wpOpsS,go_sem,recoverD,hu,ntmps189,Exit.thenS]
 refine wpS_cond (t:=false) (by simp [Act.eval,Array.replicate]) ?_
 simp only [Bool.false_eq_true,if_false]
 refine wpS_of_wp (wp_skip ?_)
 cases c₀
 simp_all [bodyPostS,results,Tryz.results189]
theorem Qhu (p q:Nat) (u:TypeId) (pv:Value) (older:List PanicEntry) (w:World) (v0 v1 v2:Value)
  (hp:Blk w p [v0,v1] 82) (hq:w.cell? ⟨q,0,none⟩=some v2) (zq:w.frozen? ⟨q,0,none⟩=false) (hne:q≠p) :
  CallsD prog 189 #[.pointer (some ⟨p,0,none⟩),.pointer (some ⟨q,0,none⟩)] (.panicking ({v:=.iface u pv,recovered:=false} :: older)) w λ e u' w'=>
   e=.returned (.tuple #[])/\u'=.panicking ({v:=.iface u pv,recovered:=true} :: older)/\w'=((w.setCell ⟨p,0,none⟩ (.int .u64 0)).setCell ⟨p,1,none⟩ (.slice none 0 0)).setCell ⟨q,0,none⟩ (.int .u16 141):=by
 have e0:w.cell? ⟨p,0,none⟩=some v0:=hp.cell 0;have e1:w.cell? ⟨p,1,none⟩=some v1:=hp.cell 1;have z0:=hp.frozen 0;have z1:=hp.frozen 1;refine callsD_of_wpS func189 rfl λ c₀ cs hu=>?_
 apply wpS_seq
 apply wpS_region
 simp [wpOpsS,go_sem,recoverD,hu,ntmps189,Exit.thenS]
 refine wpS_cond (t:=true) (by simp [Act.eval,Array.replicate]) ?_
 simp only [if_true]
 apply wpS_region
 simp [wpOpsS,go_sem,e0,e1,z0,z1,hq,zq,bodyPostS,results,Tryz.results189]
def Q3e (q:Nat):List Deferred:=[{target:=.fn (.func 189) #[.pointer (some ⟨q+1,0,none⟩),.pointer (some ⟨q+2,0,none⟩)],args:=#[]}]
theorem Qh2 (q:Nat) (tmps:Array Value) (w:World) (v0 v1 v2:Value) (h2:tmps.getD 4 undef=.pointer (some ⟨q+1,0,none⟩)) (h3:tmps.getD 5 undef=.pointer (some ⟨q+2,0,none⟩)) (hb:Blk w (q+1) [v0,v1] 82) (c2:w.cell? ⟨q+2,0,none⟩=some v2) :
  (results Tryz.f120 tmps).run prog w=.ok (.tuple #[.agg #[v0,v1],v2]) w:=by
 have hl:=run_loadVar_row (P:=prog) w (q+1) 82 82 [v0,v1].toArray (0,0) _ hb Tryz.underlying82 rfl (by rw [Tryz.info_state];simp);have l2:(loadVar 51 ⟨q+2,0,none⟩).run prog w=.ok v2 w:=by simp [go_sem,c2]
 have:(results Tryz.f120 tmps).run prog w=((asAddr (tmps.getD 4 undef)).run prog w).andThen λ a w₁=>((loadVar 82 a).run prog w₁).andThen λ z w₂=>((asAddr (tmps.getD 5 undef)).run prog w₂).andThen λ a w₃=>((loadVar 51 a).run prog w₃).andThen λ y w₄=>.ok (.tuple #[z,y]) w₄:=by
  simp only [results,Tryz.results120]
  simp [Sem.run_bind,Result.andThen]
 rw [this,h2,h3];simp [asAddr,hl,l2,Result.andThen]
theorem Qit {q:Nat} {w V:World} {s:Sh} {l:List (List Int)} {v0 v1:Value} {E:Int} {t:ByteArray} (hq:q=w.heap.size) (hb:Blk V (q+1) [v0,v1] 82) (he:Blk V (q+2) [.int .u16 E] 51) (bel:Below w.heap.size w V) (hno:¬IsK s l) (tmps:Array Value) (h2:tmps.getD 4 undef=.pointer (some ⟨q+1,0,none⟩)) (h3:tmps.getD 5 undef=.pointer (some ⟨q+2,0,none⟩)) :
  Leaves prog Tryz.f120 tmps (DecK w s l) (Q3e q) (.panicking [{v:=.iface 9 (.string t),recovered:=false}]) V:=by
 refine leaves_cons (f:=189) (args:=#[.pointer (some ⟨q+1,0,none⟩),.pointer (some ⟨q+2,0,none⟩)]) (by simp) (by simp [go_sem]) ?_
 refine (Qhu (q+1) (q+2) 9 _ [] _ _ _ _ hb (he.cell 0) (he.frozen 0) (by omega)).mono ?_
 rintro e u' w'' ⟨rfl,rfl,rfl⟩;have k1:=((hb.set 0 (.int .u64 0)).set 1 (.slice none 0 0)).set_other (a:=⟨q+2,0,none⟩) (by show q+1≠q+2;omega) (.int .u16 141);have k2:=((he.set_other (a:=⟨q+1,0,none⟩) (by show q+2≠q+1;omega) (.int .u64 0)).set_other (a:=⟨q+1,1,none⟩) (by show q+2≠q+1;omega) (.slice none 0 0)).set 0 (.int .u16 141);refine ⟨_,Qh2 q tmps _ _ _ _ h2 h3 k1 (k2.cell 0),none,0,0,?_⟩
 unfold dkS dkE dkX;rw [if_neg hno,if_neg hno,if_neg hno];exact ⟨rfl,Qfa _,Nat.le_refl _,((bel.setCell (by show w.heap.size<=q+1;omega) _).setCell (by show w.heap.size<=q+1;omega) _).setCell (by show w.heap.size<=q+2;omega) _⟩
theorem Qve {q:Nat} {w V:World} {s:Sh} {l:List (List Int)} {A:Option Addr} {n C:Nat} (hb:Blk V (q+1) [.int .u64 (Qa0 l),.slice A n C] 82) (he:Blk V (q+2) [.int .u16 0] 51) (bel:Below w.heap.size w V) (hg:IsK s l) (hi:KIn V A n (Qaw l)) (hnC:n<=C) (tmps:Array Value) (h2:tmps.getD 4 undef=.pointer (some ⟨q+1,0,none⟩)) (h3:tmps.getD 5 undef=.pointer (some ⟨q+2,0,none⟩)) :
  Leaves prog Tryz.f120 tmps (DecK w s l) (Q3e q) .returning V:=by
 refine leaves_cons (f:=189) (args:=#[.pointer (some ⟨q+1,0,none⟩),.pointer (some ⟨q+2,0,none⟩)]) (by simp) (by simp [go_sem]) ?_
 refine (Qnk _ _ _).mono ?_
 rintro e u' w'' ⟨rfl,rfl,rfl⟩;refine ⟨_,Qh2 q tmps _ _ _ _ h2 h3 hb (he.cell 0),A,n,C,?_⟩
 unfold dkS dkE dkX;rw [if_pos hg,if_pos hg,if_pos hg];exact ⟨rfl,hi,hnC,bel⟩
theorem KIn.set {W:World} {A:Option Addr} {m:Nat} {xs:List Pl} (h:KIn W A m xs) {q:Nat} (hq:∀j t,W.cell? ⟨q,j,none⟩≠some (.int .u32 t)) (i:Nat) (v:Value):KIn (W.setCell ⟨q,i,none⟩ v) A m xs:=by
 obtain ⟨h1,h2,h3,h4⟩:=h;refine ⟨h1,h2,h3,?_⟩
 rcases h4 with h4 | ⟨b,off,ha,hc⟩
 ·exact .inl h4
 ·refine .inr ⟨b,off,ha,λ k x hx j u hu=>?_⟩
  have hne:b≠q:=by
   rintro rfl;exact hq _ _ (hc k x hx 0 _ rfl)
  exact Qa1 (hc k x hx j u hu) hne
theorem Qdo {W:World} {q:Nat} {v:Int} {a:Option Addr} {n c:Nat} {t:TypeId} (h:Blk W q [.int .u64 v,.slice a n c] t):∀j t,W.cell? ⟨q,j,none⟩≠some (.int .u32 t):=by
 intro j t e;rw [h.cell] at e;match j,e with
 | 0,e=>cases e
 | 1,e=>cases e
 | j+2,e=>simp at e
theorem Qot {W:World} {q:Nat} {v:Int} {t:TypeId} (h:Blk W q [.int .u16 v] t):∀j t,W.cell? ⟨q,j,none⟩≠some (.int .u32 t):=by
 intro j t e;rw [h.cell] at e;match j,e with
 | 0,e=>cases e
 | j+1,e=>simp at e
theorem Qf7 {s:Sh} {seq:Int} {ps:List Pl} (h:ckE s ps=0):Qtq (ckL s seq ps):=by
 obtain ⟨hg,hm⟩:=Qb2.1 h;have hr:=Qcv hg.1;have hp:=Qar (show s.b∈PowR from hg.1.2.2.2.2.1);intro D hD;obtain ⟨i,hi,rfl⟩:=Qwg hD;have:=Qby (Qbl s) i ps;rw [Qd3 (by omega)];omega
set_option maxHeartbeats 2000000 in
theorem Qsg (s:Sh) (a:Option Addr) (n c:Nat) (l:List (List Int)) (w:World) (hz:-9223372036854775808<=s.z) (hl:BsIn w a n l) :
  Calls prog 120 #[.agg (shL s).toArray,.slice a n c] w (DecK w s l):=by
 have hmf:∀(fn:Fn) (first cap:Array Value) (w:World),(Instr.makeFunc fn first cap).run prog w=.ok (.func fn first cap) w:=λ _ _ _ _=>rfl
 obtain ⟨q,hq⟩:∃q,q=w.heap.size:=⟨_,rfl⟩
 have HW:Hid (Blk (((w.alloc (.cells #[.int .i64 s.z,.int .i64 s.zb,.int .i64 s.b,.int .i64 s.r] 23)).alloc (.cells #[.int .u64 0,.slice none 0 0] 82)).alloc (.cells #[.int .u16 0] 51)) q (shL s) 23/\Blk (((w.alloc (.cells #[.int .i64 s.z,.int .i64 s.zb,.int .i64 s.b,.int .i64 s.r] 23)).alloc (.cells #[.int .u64 0,.slice none 0 0] 82)).alloc (.cells #[.int .u16 0] 51)) (q+1) [.int .u64 0,.slice none 0 0] 82/\Blk (((w.alloc (.cells #[.int .i64 s.z,.int .i64 s.zb,.int .i64 s.b,.int .i64 s.r] 23)).alloc (.cells #[.int .u64 0,.slice none 0 0] 82)).alloc (.cells #[.int .u16 0] 51)) (q+2) [.int .u16 0] 51/\Below w.heap.size w (((w.alloc (.cells #[.int .i64 s.z,.int .i64 s.zb,.int .i64 s.b,.int .i64 s.r] 23)).alloc (.cells #[.int .u64 0,.slice none 0 0] 82)).alloc (.cells #[.int .u16 0] 51))):=
  ⟨((Blk.new' hq.symm rfl).alloc _).alloc _,(Blk.new' (by simp [hq]) rfl).alloc _,Blk.new' (by simp [hq]) rfl,(((Below.refl _ _).alloc (Nat.le_refl _) _).alloc (by simp) _).alloc (by simp;omega) _⟩
 have H:=Jh3 hl hq hz;clear hl hz;simp only [shL]
 go_enter_defers func120,ntmps120
 go_upto_region 2 with fail
 rw [<-hq];have e2:q+1+1=q+2:=rfl;rw [e2];clear hq e2;generalize hW:World.alloc (World.alloc (World.alloc w _) _) _=W at HW ⊢;clear hW;have c0:W.cell? ⟨q,0,none⟩=some (.int .i64 s.z):=HW.out.1.cell 0;have c1:W.cell? ⟨q,1,none⟩=some (.int .i64 s.zb):=HW.out.1.cell 1;have c2:W.cell? ⟨q,2,none⟩=some (.int .i64 s.b):=HW.out.1.cell 2;have c3:W.cell? ⟨q,3,none⟩=some (.int .i64 s.r):=HW.out.1.cell 3;go_wp2_with fail
 refine (Qxx s a n c l W (Jz2 H) (H.out.1.below (Jz3 HW))).mono ?_
 rintro e W2 ⟨b2,(⟨hno,he⟩ | ⟨hok,A,m,C,rfl,it2,hmC⟩)⟩
 ·unfold Qdm at he
  subst he;exact Qit (J2 H) ((J2 HW).below b2 (J2 HW).lt) ((J3 HW).below b2 (J3 HW).lt) ((Jz3 HW).trans (b2.mono (Jz3 HW).size)) (λ h=>hno (Quv h (Ql7 H.out.1))) _ rfl rfl
 ·have k0:=HW.out.1.below b2 HW.out.1.lt
  have k1:=(J2 HW).below b2 (J2 HW).lt;have k2:=(J3 HW).below b2 (J3 HW).lt;have hqw:=(J2 H)
  have d0:W2.cell? ⟨q+1,0,none⟩=some (.int .u64 0):=k1.cell 0;have d1:W2.cell? ⟨q+1,1,none⟩=some (.slice none 0 0):=k1.cell 1;have z0:=k1.frozen 0;have z1:=k1.frozen 1;obtain ⟨S,hS⟩:∃S,S=Qa0 l:=⟨_,rfl⟩
  rw [<-hS];have k1a:Blk (W2.setCell ⟨q+1,0,none⟩ (.int .u64 S)) (q+1) [.int .u64 S,.slice none 0 0] 82:=k1.set 0 _;have k1b:Blk ((W2.setCell ⟨q+1,0,none⟩ (.int .u64 S)).setCell ⟨q+1,1,none⟩ (.slice A m C)) (q+1) [.int .u64 S,.slice A m C] 82:=k1a.set 1 _;have k2b:=(k2.set_other (a:=⟨q+1,0,none⟩) (by show q+2≠q+1;omega) (.int .u64 S)).set_other (a:=⟨q+1,1,none⟩) (by show q+2≠q+1;omega) (.slice A m C);have k0b:=(k0.set_other (a:=⟨q+1,0,none⟩) (by show q≠q+1;omega) (.int .u64 S)).set_other (a:=⟨q+1,1,none⟩) (by show q≠q+1;omega) (.slice A m C);have it3:=(it2.set (Qdo k1) 0 (.int .u64 S)).set (Qdo k1a) 1 (.slice A m C);have bel3:=(((Jz3 HW).trans (b2.mono (Jz3 HW).size)).setCell (p:=⟨q+1,0,none⟩) (by show w.heap.size<=q+1;omega) (.int .u64 S)).setCell (p:=⟨q+1,1,none⟩) (by show w.heap.size<=q+1;omega) (.slice A m C);have HS:=Jh1 hS;clear k1 k2 k0 k1a it2 hS hqw c0 c1 c2 c3;go_upto_region 3 with fail
  generalize hW3:World.setCell (World.setCell W2 _ _) _ _=W3 at k1b k2b k0b it3 bel3 ⊢;have H3:=Jh7 k1b k2b it3 bel3 HS.out hmC k0b;have c0:W3.cell? ⟨q+1,0,none⟩=some (.int .u64 S):=k1b.cell 0;have c1:W3.cell? ⟨q+1,1,none⟩=some (.slice A m C):=k1b.cell 1;have s0:W3.cell? ⟨q,0,none⟩=some (.int .i64 s.z):=k0b.cell 0;have s1:W3.cell? ⟨q,1,none⟩=some (.int .i64 s.zb):=k0b.cell 1;have s2:W3.cell? ⟨q,2,none⟩=some (.int .i64 s.b):=k0b.cell 2;have s3:W3.cell? ⟨q,3,none⟩=some (.int .i64 s.r):=k0b.cell 3;clear k1b k2b k0b it3 bel3 d0 d1 z0 z1 b2 hW3 hok hmC;go_wp2_with fail
  refine (Qk0 s S A m C (Qaw l) W3 (Jz2 H) (by rw [(J5 H3)];exact Qec l (Ql7 H.out.1)) (J3 H3) (J6 H3)).mono ?_
  rintro e W4 ⟨v,rfl,r4,b4⟩;obtain ⟨E,hE⟩:∃E,E=ckE s (Qaw l):=⟨_,rfl⟩
  rw [<-hE];obtain ⟨av,cv,hv⟩:=r4.slice;obtain ⟨nv,hnv⟩:∃nv,nv=(ckO s S (Qaw l)).length:=⟨_,rfl⟩
  rw [<-hnv] at hv;subst hv;have k1:=H3.out.1.below b4 H3.out.1.lt;have k2:=(J2 H3).below b4 (J2 H3).lt;have hqw:=(J2 H)
  have hlt:=(J2 H3).lt;have H4:Hid (Blk (W4.setCell ⟨q+2,0,none⟩ (.int .u16 E)) (q+1) [.int .u64 S,.slice A m C] 82/\Blk (W4.setCell ⟨q+2,0,none⟩ (.int .u16 E)) (q+2) [.int .u16 E] 51/\KIn (W4.setCell ⟨q+2,0,none⟩ (.int .u16 E)) A m (Qaw l)/\Below w.heap.size w (W4.setCell ⟨q+2,0,none⟩ (.int .u16 E))/\E=ckE s (Qaw l)/\RowAt (λ j=>W3.heap.size<=j) (W4.setCell ⟨q+2,0,none⟩ (.int .u16 E)) (.slice av nv cv) (ckO s S (Qaw l))):=
   ⟨k1.set_other (by show q+1≠q+2;omega) _,k2.set 0 _,((J3 H3).below b4).set (Qot k2) 0 _,((J4 H3).trans (b4.mono (J4 H3).size)).setCell (by show w.heap.size<=q+2;omega) _,hE,out_row' k2 0 _ r4 hlt⟩
  have d2:W4.cell? ⟨q+2,0,none⟩=some (.int .u16 0):=k2.cell 0;have z2:=k2.frozen 0;clear k1 k2 r4 b4 hE hqw hlt c0 c1 s0 s1 s2 s3 hnv;go_upto_region 4 with fail
  generalize hW5:World.setCell W4 _ _=W5 at H4 ⊢;clear hW5 d2 z2;have d2:W5.cell? ⟨q+2,0,none⟩=some (.int .u16 E):=(J2 H4).cell 0;have z2:=(J2 H4).frozen 0;have c0:W5.cell? ⟨q+1,0,none⟩=some (.int .u64 S):=H4.out.1.cell 0;have c1:W5.cell? ⟨q+1,1,none⟩=some (.slice A m C):=H4.out.1.cell 1;have z0:=H4.out.1.frozen 0;have z1:=H4.out.1.frozen 1;by_cases hE0:E=0
  ·have hck:ckE s (Qaw l)=0:=by rw [<-(J5 H4)];exact hE0
   have hrow:=(Jz5 H4)
   have hO:ckO s S (Qaw l)=ckL s S (Qaw l):=by unfold ckO;rw [if_pos hck]
   rw [hO] at hrow;have cE:=Q3q av nv cv (ckL s S (Qaw l)) a n c l W5 (hrow.bsin (Qf7 hck)) (H.out.1.below (J4 H4));have hiff:IsK s l↔ckL s S (Qaw l)=l:=by
    unfold IsK;rw [(J5 H3)];exact ⟨λ h=>h.2,λ h=>⟨hck,h⟩⟩
   clear hrow hO hck;subst hE0;by_cases hr:IsK s l
   ·have HR:=Jh1 hr
    rw [decide_eq_true (hiff.1 hr)] at cE;clear hr hiff;go_upto_region 6 with (go_at_call 191;refine cE.mono ?_;rintro e W6 ⟨rfl,hw6⟩;replace hw6:=hw6.symm;subst hw6)
    have HZ:Hid (Blk (((W5.setCell ⟨q+1,0,none⟩ (.int .u64 S)).setCell ⟨q+1,1,none⟩ (.slice A m C)).setCell ⟨q+2,0,none⟩ (.int .u16 0)) (q+1) [.int .u64 (Qa0 l),.slice A m C] 82/\Blk (((W5.setCell ⟨q+1,0,none⟩ (.int .u64 S)).setCell ⟨q+1,1,none⟩ (.slice A m C)).setCell ⟨q+2,0,none⟩ (.int .u16 0)) (q+2) [.int .u16 0] 51/\Below w.heap.size w (((W5.setCell ⟨q+1,0,none⟩ (.int .u64 S)).setCell ⟨q+1,1,none⟩ (.slice A m C)).setCell ⟨q+2,0,none⟩ (.int .u16 0))/\KIn (((W5.setCell ⟨q+1,0,none⟩ (.int .u64 S)).setCell ⟨q+1,1,none⟩ (.slice A m C)).setCell ⟨q+2,0,none⟩ (.int .u16 0)) A m (Qaw l)):=by
     have e1:Blk (W5.setCell ⟨q+1,0,none⟩ (.int .u64 S)) (q+1) [.int .u64 S,.slice A m C] 82:=H4.out.1.set 0 _;have e2:Blk ((W5.setCell ⟨q+1,0,none⟩ (.int .u64 S)).setCell ⟨q+1,1,none⟩ (.slice A m C)) (q+1) [.int .u64 S,.slice A m C] 82:=e1.set 1 _;have e3:=((J2 H4).set_other (a:=⟨q+1,0,none⟩) (by show q+2≠q+1;omega) (.int .u64 S)).set_other (a:=⟨q+1,1,none⟩) (by show q+2≠q+1;omega) (.slice A m C);have hq:=(J2 H)
     refine ⟨by rw [<-(J5 H3)];exact e2.set_other (by show q+1≠q+2;omega) _,e3.set 0 _,(((J4 H4).setCell (by show w.heap.size<=q+1;omega) _).setCell (by show w.heap.size<=q+1;omega) _).setCell (by show w.heap.size<=q+2;omega) _,(((J3 H4).set (Qdo H4.out.1) 0 _).set (Qdo e1) 1 _).set (Qot e3) 0 _⟩
    clear cE;go_wp2
    exact Qve HZ.out.1 (J2 HZ) (J3 HZ) HR.out (Jz3 HZ) (J6 H3) _ rfl rfl
   ·have HR:=Jh1 hr
    rw [decide_eq_false (λ h=>hr (hiff.2 h))] at cE;clear hr hiff;go_wp2_with (go_at_call 191;refine cE.mono ?_;rintro e W6 ⟨rfl,hw6⟩;replace hw6:=hw6.symm;subst hw6)
    exact Qit (J2 H) H4.out.1 (J2 H4) (J4 H4) HR.out _ rfl rfl
  ·have hEb:(E != 0)=true:=by simp [hE0]
   have HR:Hid (¬IsK s l):=λ h=>hE0 (by rw [(J5 H4)];exact h.1)
   clear hE0;go_wp2
   exact Qit (J2 H) H4.out.1 (J2 H4) (J4 H4) HR.out _ rfl rfl
section
theorem below_drewN (w:World) (n:Nat):Below w.heap.size w (w.drewN n):=⟨rfl,rfl,rfl,Nat.le_refl _,λ _ _=>rfl⟩
section
variable {O:Nat->Prop} {W:World} {p:Nat} {s:Sh} {zs:List Zn}
theorem Qrl (zn:Int) (hd:Dv 98 O W p s zs) :
  Calls prog 88 #[.pointer (some ⟨p,0,none⟩),.int .i64 zn] W λ e w'=>e=.returned (.bool (decide (0<=zn) && decide (zn<=(zs.length:Int) - 1)))/\w'=W:=by
 obtain ⟨g,c,vs,hv⟩:=hd;have c4:=hv.pcell.2.2.2.2;have hl:=hv.small;have hw:IntKind.i64.wrap ((zs.length:Int) - 1)=(zs.length:Int) - 1:=by rw [IntKind.wrap_i64];omega
 clear hl hv;go_enter func88,ntmps88
 go_wp2_with (go_at_call 40;refine (Qcb _ _ _ _).mono ?_;rintro e w' ⟨rfl,rfl⟩)
 go_ret
 exact ⟨rfl,rfl⟩
theorem Tryz.info_shape:(prog.info? 23).map (·.size)=some 4:=by kernel_rfl
theorem Ql0 (hd:Dv 98 O W p s zs) :
  Calls prog 72 #[.pointer (some ⟨p,0,none⟩)] W λ e w'=>e=.returned (.agg (shL s).toArray)/\Below W.heap.size W w':=by
 obtain ⟨g,c,vs,hv⟩:=hd;obtain ⟨q,hq⟩:∃q,q=W.heap.size:=⟨_,rfl⟩
 have hb:Blk (W.alloc (.cells #[.int .i64 0,.int .i64 0,.int .i64 0,.int .i64 0] 23)) q [.int .i64 0,.int .i64 0,.int .i64 0,.int .i64 0] 23:=Blk.new' hq.symm rfl;have hbel:Below q W (W.alloc (.cells #[.int .i64 0,.int .i64 0,.int .i64 0,.int .i64 0] 23)):=(Below.refl _ _).alloc (by omega) _;have hv':=hv.under (by rw [<-hq];exact hbel);rw [<-hq];go_enter func72,ntmps72
 go_upto_region 1 with fail
 rw [<-hq];generalize hW1:World.alloc _ _=W1 at *;obtain ⟨c0,c1,c2,c3,c4⟩:=hv'.pcell;have e0:W1.cell? ⟨q,0,none⟩=some (.int .i64 0):=hb.cell 0;have e1:W1.cell? ⟨q,1,none⟩=some (.int .i64 0):=hb.cell 1;have e2:W1.cell? ⟨q,2,none⟩=some (.int .i64 0):=hb.cell 2;have e3:W1.cell? ⟨q,3,none⟩=some (.int .i64 0):=hb.cell 3;have f0:=hb.frozen 0;have f1:=hb.frozen 1;have f2:=hb.frozen 2;have f3:=hb.frozen 3;have HB:=Jh2 hb hbel;clear hb hbel hv hv' hW1 hq;go_wp2
 refine bodyPost_ret (Qap (p:=2) (ty:=23) rfl _ _ q [.int .i64 s.z,.int .i64 s.zb,.int .i64 s.b,.int .i64 s.r] _ _ rfl ((((HB.out.1.set 0 _).set 1 _).set 2 _).set 3 _) Tryz.underlying23 rfl Tryz.info_shape) rfl ⟨rfl,?_⟩
 exact (((HB.out.2.setCell (p:=⟨q,0,none⟩) (Nat.le_refl _) _).setCell (p:=⟨q,1,none⟩) (Nat.le_refl _) _).setCell (p:=⟨q,2,none⟩) (Nat.le_refl _) _).setCell (p:=⟨q,3,none⟩) (Nat.le_refl _) _
def atZ (zs:List Zn) (zn:Int):Zn:=if 0<=zn then zs.getD zn.toNat ([],0) else ([],0)
theorem Qc0 {zs:List Zn} {i:Nat} {z:Zn} (h:zs[i]?=some z):atZ zs i=z:=by
 simp [atZ,List.getD,h]
theorem Qvn {zs:List Zn} {zn:Int} (h:¬(0<=zn/\zn<=(zs.length:Int) - 1)):atZ zs zn=([],0):=by
 unfold atZ;split
 ·rw [List.getD,List.getElem?_eq_none (by omega)];rfl
 ·rfl
theorem Qcg (zs:List Zn) (zn:Int):(∃(i:Nat) (z:Zn),zn=i/\zs[i]?=some z/\i<zs.length/\(decide (0<=zn) && decide (zn<=(zs.length:Int) - 1))=true)\/(¬(0<=zn/\zn<=(zs.length:Int) - 1)/\(decide (0<=zn) && decide (zn<=(zs.length:Int) - 1))=false):=by
 by_cases h:0<=zn/\zn<=(zs.length:Int) - 1
 ·exact .inl ⟨zn.toNat,zs[zn.toNat]'(by omega),by omega,by simp,by omega,by simp;omega⟩
 ·exact .inr ⟨h,by simp;omega⟩
theorem Q2a (zn:Int) (hd:Dv 98 O W p s zs) :
  Calls prog 129 #[.pointer (some ⟨p,0,none⟩),.int .i64 zn] W λ e w'=>e=.returned (.tuple #[.int .i64 ((atZ zs zn).1.length:Nat),.int .i64 (atZ zs zn).2])/\Below W.heap.size W w':=by
 have hh:=Qrl zn hd;rcases Qcg zs zn with ⟨i,z,rfl,hz,hi,hb⟩ | ⟨hn,hb⟩
 ·rw [hb] at hh
  rw [Qc0 hz];obtain ⟨g,c,vs,hv⟩:=hd;obtain ⟨a,cc,hu,hr,z0,z1⟩:=hv.at hz;have c4:=hv.pcell.2.2.2.2;have HH:=Jh1 @hh;have HB:Hid (∀w',w'=W.drew->Below W.heap.size W w'):=λ w' e=>by rw [e];exact (Below.refl _ _).drew
  have hi':(i:Int)<zs.length:=by omega
  clear hh hv hr hz hu;go_enter func129,ntmps129
  go_wp2_with (go_at_call 88;refine HH.out.mono ?_;rintro e W ⟨rfl,rfl⟩)
  go_quiet (fail)
  go_wp2
  go_ret2
  exact ⟨rfl,below_drewN _ _⟩
 ·rw [hb] at hh
  rw [Qvn hn];have HH:=Jh1 @hh;clear hh hb hn hd;go_enter func129,ntmps129
  go_wp2_with (go_at_call 88;refine HH.out.mono ?_;rintro e W ⟨rfl,rfl⟩)
  go_ret2
  exact ⟨rfl,Below.refl _ _⟩
def Step (T:TypeId) (O:Nat->Prop) (W:World) (p:Nat) (s:Sh) (zs':List Zn) (W':World):Prop:=Dv T (Ext O W W') W' p s zs'/\Out O W W'
theorem Qfw {T:TypeId} {zs':List Zn} {W':World} (h:Dv T O W' p s zs') (ho:Out O W W'):Step T O W p s zs' W':=by
 obtain ⟨g,c,vs,hv⟩:=h;exact ⟨⟨g,c,vs,hv.mono (λ x hx _=>.inl hx)⟩,ho⟩
def Qks (zs:List Zn) (zn:Int):List Zn:=if 0<=zn then zs.set zn.toNat ([],0) else zs
theorem Qgb (zs:List Zn) (i:Nat):Qks zs i=zs.set i ([],0):=by simp [Qks]
theorem Qkg {zs:List Zn} {zn:Int} (h:¬(0<=zn/\zn<=(zs.length:Int) - 1)):Qks zs zn=zs:=by
 unfold Qks;split
 ·rw [List.set_eq_of_length_le (by omega)]
 ·rfl
def Qk1 (zs:List Zn) (zn:Int):Int:=if 0<=zn/\zn<=(zs.length:Int) - 1 then 0 else 100
theorem DvV.reset {T:TypeId} {g c:Nat} {vs:List Value} {i:Nat} {z:Zn} (hv:DvV T O W p s zs g c vs) (hz:zs[i]?=some z):Step T O W p s (zs.set i ([],0)) ((W.setCell ⟨g,i*2,none⟩ (.slice none 0 0)).setCell ⟨g,i*2+1,none⟩ (.int .i64 0)):=by
 obtain ⟨a,cc,hu,hr,z0,z1⟩:=hv.at hz;obtain ⟨_,_,_,h4⟩:=hv.upd (u':=.slice none 0 0) (bs':=[]) hz hu (Out.refl _ _) (λ _ h=>h) (RowAt.nil _ _) (.inr λ r e=>by cases e);have hi:=(List.getElem?_eq_some_iff.1 hz).1;have h5:=h4.setD (i:=i) (z:=([],z.2)) (by simp [hi]) 0;rw [List.set_set] at h5;exact Qfw ⟨g,c,_,h5⟩ (((Out.refl O W).setCell (p:=⟨g,i*2,none⟩) (.inl hv.og) _).setCell (p:=⟨g,i*2+1,none⟩) (.inl hv.og) _)
theorem Qyo (zn:Int) (hd:Dv 98 O W p s zs) :
  Calls prog 35 #[.pointer (some ⟨p,0,none⟩),.int .i64 zn] W λ e w'=>e=.returned (.int .u16 (Qk1 zs zn))/\Step 98 O W p s (Qks zs zn) w':=by
 have hh:=Qrl zn hd;rcases Qcg zs zn with ⟨i,z,rfl,hz,hi,hb⟩ | ⟨hn,hb⟩
 ·rw [hb] at hh
  rw [Qgb,Qk1,if_pos (by omega)];obtain ⟨g,c,vs,hv⟩:=hd;obtain ⟨a,cc,hu,hr,z0,z1⟩:=hv.at hz;have f0:=hv.free (i*2);have f1:=hv.free (i*2+1);have c4:=hv.pcell.2.2.2.2;have HR:Hid (Step 98 O W p s (zs.set i ([],0)) ((W.setCell ⟨g,i*2,none⟩ (.slice none 0 0)).setCell ⟨g,i*2+1,none⟩ (.int .i64 0))):=hv.reset hz;have HH:=Jh1 @hh;have hi':(i:Int)<zs.length:=by omega
  clear hh hv hr hz hu;go_enter func35,ntmps35
  go_wp2_with (go_at_call 88;refine HH.out.mono ?_;rintro e W ⟨rfl,rfl⟩)
  go_ret
  exact ⟨rfl,HR.out⟩
 ·rw [hb] at hh
  rw [Qkg hn,Qk1,if_neg hn];have HH:=Jh1 @hh;have HD:=Jh1 hd;clear hh hb hn hd;go_enter func35,ntmps35
  go_wp2_with (go_at_call 88;refine HH.out.mono ?_;rintro e W ⟨rfl,rfl⟩)
  go_ret
  exact ⟨rfl,Qfw HD.out (Out.refl _ _)⟩
def upTo {α:Type} (f:Nat->α->α) (l:List α) (i:Nat):List α:=l.mapIdx (λ j z=>if j<i then f j z else z)
theorem Qa5 {α:Type} (f:Nat->α->α) (l:List α) (i:Nat):(upTo f l i).length=l.length:=by simp [upTo]
theorem Qgv {α:Type} (f:Nat->α->α) (l:List α):upTo f l 0=l:=by
 apply List.ext_getElem?;intro j;simp [upTo]
theorem Qcs {α:Type} (f:Nat->α->α) (l:List α) (i:Nat):(upTo f l i)[i]?=l[i]?:=by simp [upTo]
theorem Qem {α:Type} (f:Nat->α->α) (l:List α) {i:Nat} {z:α} (h:l[i]?=some z):(upTo f l i).set i (f i z)=upTo f l (i+1):=by
 have hi:=(List.getElem?_eq_some_iff.1 h).1;apply List.ext_getElem?
 intro j;by_cases e:i=j
 ·subst e
  rw [List.getElem?_set_self (by simp [upTo,hi])];simp [upTo,h]
 ·rw [List.getElem?_set_ne e]
  simp only [upTo,List.getElem?_mapIdx]
  congr 1
  funext z
  by_cases hj:j<i
  ·rw [if_pos hj,if_pos (by omega)]
  ·rw [if_neg hj,if_neg (by omega)]
theorem Qid {α:Type} (f:Nat->α->α) (l:List α) {i:Nat} (h:l.length<=i):upTo f l i=l.mapIdx f:=by
 apply List.ext_getElem?
 intro j;simp only [upTo,List.getElem?_mapIdx]
 rcases Nat.lt_or_ge j l.length with hj | hj
 ·rw [List.getElem?_eq_getElem hj];simp;omega
 ·rw [List.getElem?_eq_none hj];rfl
def fl (z:Zn):Zn:=(z.1,z.1.length)
def Qjw (zs:List Zn):List Zn:=zs.mapIdx (λ _ z=>fl z)
set_option maxHeartbeats 2000000 in
theorem Qpz (hd:Dv 98 O W p s zs) :
  Calls prog 66 #[.pointer (some ⟨p,0,none⟩)] W λ e w'=>(∃v,e=.returned v)/\Step 98 O W p s (Qjw zs) w':=by
 obtain ⟨g,c,vs,hv⟩:=hd;have c4:=hv.pcell.2.2.2.2;have hl:=hv.small;have HV:=Jh1 hv;clear hv;generalize hN:zs.length=N at *;go_enter func66,ntmps66
 go_wp2
 go_loopw [8] (λ x wr=>∃i:Nat,x=.int .i64 i/\i<=N/\DvV 98 O wr p s (upTo (λ _ z=>fl z) zs i) g c vs/\Out O W wr) (λ x wr=>N - (intOf x).toNat)
 case atStart=>exact ⟨0,rfl,Nat.zero_le _,by rw [Qgv];exact HV.out,Out.refl _ _⟩
 case round=>
  obtain ⟨i,rfl,hi,hv,ho⟩:=hrel;have c4':=hv.pcell.2.2.2.2;rw [Qa5,hN] at c4';rcases Nat.lt_or_ge i N with hlt | hge
  ·obtain ⟨z,hz⟩:∃z,zs[i]?=some z:=⟨zs[i]'(by omega),by simp⟩
   obtain ⟨a,cc,hu,hr,z0,z1⟩:=hv.at ((Qcs _ _ _).trans hz);have f1:=hv.free (i*2+1);have HS:Hid (DvV 98 O (wr.setCell ⟨g,i*2+1,none⟩ (.int .i64 (z.1.length:Nat))) p s (upTo (λ _ z=>fl z) zs (i+1)) g c vs/\Out O W (wr.setCell ⟨g,i*2+1,none⟩ (.int .i64 (z.1.length:Nat)))):=by
    refine ⟨?_,ho.setCell (p:=⟨g,i*2+1,none⟩) (.inl hv.og) _⟩
    have:=hv.setD ((Qcs _ _ _).trans hz) (z.1.length:Nat);rw [<-Qem _ _ hz];exact this
   have hi':(i:Int)<(N:Int):=by omega
   have hw:IntKind.i64.wrap ((i:Int)+1)=(i:Int)+1:=by rw [IntKind.wrap_i64];omega
   have k4:=HS.out.1.pcell.2.2.2.2;rw [Qa5,hN] at k4;have k0:(wr.setCell ⟨g,i*2+1,none⟩ (.int .i64 (z.1.length:Nat))).cell? ⟨g,i*2,none⟩=some (.slice a z.1.length cc):=by
    rw [World.cell?_setCell_other _ _ _ _ (by intro e;injection e with _ e;omega)];exact z0
   clear hv ho hr hu c4;go_wp2
   go_region_held3 (λ w'=>w'.cell? ⟨p,4,none⟩=some (.slice (some ⟨g,0,none⟩) N c)/\w'.cell? ⟨g,i*2,none⟩=some (.slice a z.1.length cc)) (first | exact ⟨c4',z0⟩ | exact ⟨k4,k0⟩) (fail)
   clear z0 z1 c4' k4 k0;generalize World.setCell _ _ _=V at HS ⊢;go_wp2
   go_roundw
   case rel=>exact ⟨i+1,by simp,by omega,HS.out.1.under (Below.refl _ _).drew,HS.out.2.drew⟩
   case measure=>simp [intOf];omega
  ·obtain rfl:i=N:=by omega
   have HS:=Jh2 hv ho;clear hv ho c4 c4';go_wp2
   go_end0
   refine ⟨⟨_,rfl⟩,Qfw ⟨g,c,vs,?_⟩ HS.out.2⟩
   have:=HS.out.1;rw [Qid _ _ (by omega)] at this;exact this
end
end
end Go.Proofs.YtcdnjeiamihhbaaGreat

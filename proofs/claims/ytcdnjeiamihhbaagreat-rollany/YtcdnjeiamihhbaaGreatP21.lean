/- P21 -/
import Derived.Test.YtcdnjeiamihhbaaGreatP20
set_option linter.unusedVariables false
set_option maxRecDepth 4000
open Go.Proofs.Tryz
namespace Go.Proofs.YtcdnjeiamihhbaaGreat
open Go.RowKit
section
def ptV (p:Pt) (v:Value):Value:=.agg #[.int .u32 p.t,.int .u64 p.b,.bool p.x,v]
theorem Q2y (p:Pt) (v:Value) (w:World):Calls prog 75 #[ptV p v] w λ e w'=>e=.returned (.int .i64 (Qa9 p))/\Below w.heap.size w w':=by
 obtain ⟨t,b,x,d⟩:=p;have hb:Below w.heap.size w (w.alloc (.cells #[.int .u32 t,.int .u64 b,.bool x,v] 73)):=(Below.refl _ _).alloc (Nat.le_refl _) _;unfold ptV;cases x
 all_goals (
  go_enter func75,ntmps75
  go_wp2
  go_ret
  exact ⟨rfl,hb⟩)
section
variable {D:Nat->Prop} {W:World} {k:Bs} {st:St} {c:Nat}
theorem Qdf {T:Nat->Prop} {p:Nat} {s:Sh} {zs:List Zn} (hd:Dv 98 T W p s zs) :
  Calls prog 72 #[.pointer (some ⟨p,0,none⟩)] W λ e w'=>e=.returned (.agg #[.int .i64 s.z,.int .i64 s.zb,.int .i64 s.b,.int .i64 s.r])/\Below W.heap.size W w':=Ql0 hd
theorem Tryz.shape_zb (z zb b r:Value):∀w:World,(Instr.field 23 (.agg #[z,zb,b,r]) 1).run prog w=.ok zb w:=λ _=>by kernel_rfl
theorem Tryz.shape_b (z zb b r:Value):∀w:World,(Instr.field 23 (.agg #[z,zb,b,r]) 2).run prog w=.ok b w:=λ _=>by kernel_rfl
theorem Qt2 {w:World} {B:Nat} {e:TypeId} {A:Option Addr} {n m cc:Nat} {v:Value} {vs:List Value} (h:w.ownsRow B e 1 (.slice A n cc) m (v :: vs)):∃g,A=some ⟨g,0,none⟩/\w.cell? ⟨g,0,none⟩=some v:=by
 rcases h.2 with ⟨hv,hn⟩ | ⟨g,cap,cur,hv,r⟩
 ·have:=h.1;simp [hn] at this
 ·simp only [Value.slice.injEq] at hv
  obtain ⟨rfl,_,_⟩:=hv;have:=h.cells (g:=g) rfl 0 v (by simp);exact ⟨g,rfl,by simpa [Addr.add] using this⟩
theorem Wf.at_le {s:Sh} {zs:List Zn} (h:Wf s zs) (a:Int):((atZ zs a).1.length:Int)<=s.zb:=by
 have h8:=h.right.2.2.1;unfold atZ;split
 ·rw [List.getD_eq_getElem?_getD]
  cases hz:zs[a.toNat]? with
  | none=>simp;omega
  | some z=>exact (h.zone z (List.mem_of_getElem? hz)).1
 ·simp;omega
set_option maxHeartbeats 1000000 in
theorem Qib (a:Int) (h:StV D W k st c):Calls prog 78 #[.pointer (some ⟨k.ps,0,none⟩),.int .i64 a] W λ e w'=>e=.returned (.int .i64 (Qbv st.s st.zs a))/\Below W.heap.size W w':=by
 obtain ⟨c0,_⟩:=h.cells;obtain ⟨N,hN⟩:∃N,N=(atZ st.zs a).1.length:=⟨_,rfl⟩
 have hN1:(N:Int)<=st.s.zb:=by rw [hN];exact h.wf.at_le a
 have hzb:=h.wf.right.2.2.2.1;have hw:IntKind.i64.wrap (st.s.zb - (N:Int))=st.s.zb - (N:Int):=by rw [IntKind.wrap_i64];omega
 have H:=Jh2 h hN;have HA:Hid (Calls prog 129 #[.pointer (some ⟨k.pd,0,none⟩),.int .i64 a] W λ e w'=>e=.returned (.tuple #[.int .i64 (N:Nat),.int .i64 (atZ st.zs a).2])/\StV D w' k st c/\Below W.heap.size W w'):=by
  refine (Q2a a h.dv).mono ?_
  rintro e w' ⟨rfl,hb⟩;exact ⟨by rw [hN],h.under hb,hb⟩
 have hfd:=Tryz.shape_zb (.int .i64 st.s.z) (.int .i64 st.s.zb) (.int .i64 st.s.b) (.int .i64 st.s.r);clear h hN hN1 hzb;go_enter func78,ntmps78
 go_wp2_with (first
  | (go_at_call 129;refine HA.out.mono ?_;rintro e w2 ⟨rfl,hs2,hb2⟩;obtain ⟨d0,_⟩:=hs2.cells;have hsh:=Qdf hs2.dv;have H2:=Jh1 hb2;clear hs2 hb2)
  | (go_at_call 72;refine hsh.mono ?_;rintro e w3 ⟨rfl,hb3⟩))
 go_ret
 refine ⟨?_,H2.out.trans (hb3.mono H2.out.size)⟩
 unfold Qbv;rw [<-H.out.2]
 all_goals first | rfl | simp [hw]
set_option maxHeartbeats 1000000 in
theorem Qte (h:StV D W k st c):Calls prog 136 #[.pointer (some ⟨k.ps,0,none⟩)] W λ e w'=>e=.returned (.tuple #[.int .i64 (curA st.L),.bool (curB st.L)])/\Sv D W k {st with L:=curL st.L} c w':=by
 obtain ⟨_,c1,_⟩:=h.cells;have hg:=Qxp k.pg k.gg st.s.r st.L 2 W h.sg;have H:=Jh1 h;cases hl:Qfy st.L 2 with
 | cons z r=>
  have HA:Hid (curA st.L=z/\curB st.L=true/\curL st.L=st.L):=by unfold curA curB curL;rw [hl];exact ⟨rfl,rfl,rfl⟩
  rw [hl] at hg;have HG:Hid (Calls prog 204 #[.pointer (some ⟨k.pg,0,none⟩),.int .u8 2] W λ e w'=>∃g cc,e=.returned (.slice (some ⟨g,0,none⟩) (r.length+1) cc)/\w'.cell? ⟨g,0,none⟩=some (.int .i64 z)/\Below W.heap.size W w'):=by
   refine hg.mono ?_
   rintro e w' ⟨A,cc,rfl,ow,bl⟩;obtain ⟨g,rfl,hc⟩:=Qt2 (v:=.int .i64 z) (vs:=Qaj .i64 r) ow;exact ⟨g,cc,rfl,hc,bl⟩
  clear h hg hl;go_enter func136,ntmps136
  go_wp2_with (go_at_call 204;refine HG.out.mono ?_;rintro e w2 ⟨g,cc,rfl,x0,bl⟩)
  go_ret2
  rw [HA.out.1,(J2 HA),(Jz2 HA)];exact ⟨rfl,(Sv.start H.out).under bl⟩
 | nil=>
  have HA:Hid (curA st.L=Qo8 st.L/\curB st.L=Qng st.L/\curL st.L=Qja st.L):=by unfold curA curB curL;rw [hl];exact ⟨rfl,rfl,rfl⟩
  rw [hl] at hg;have HG:Hid (Calls prog 204 #[.pointer (some ⟨k.pg,0,none⟩),.int .u8 2] W λ e w'=>∃A cc,e=.returned (.slice A 0 cc)/\w'.cell? ⟨k.ps,1,none⟩=some (.pointer (some ⟨k.pg,0,none⟩))/\Calls prog 205 #[.pointer (some ⟨k.pg,0,none⟩)] w' λ e w''=>e=.returned (.tuple #[.int .i64 (Qo8 st.L),.bool (Qng st.L)])/\Sv D W k {st with L:=Qja st.L} c w''):=by
   refine hg.mono ?_
   rintro e w' ⟨A,cc,rfl,ow,bl⟩;have hs:=h.under bl;refine ⟨A,cc,rfl,hs.cells.2.1,(Qyv k.pg k.gg st.s.r st.L w' hs.sg).mono ?_⟩
   rintro e w'' ⟨rfl,h1,h2⟩;exact ⟨rfl,(hs.sgstep h1 h2 (Qe9 _)).from bl⟩
  clear h hg hl;go_enter func136,ntmps136
  go_wp2_with (first
   | (go_at_call 204;refine HG.out.mono ?_;rintro e w2 ⟨A,cc,rfl,x1,ht⟩)
   | (go_at_call 205;refine ht.mono ?_;rintro e w3 ⟨rfl,sv⟩))
  go_ret2
  rw [HA.out.1,(J2 HA),(Jz2 HA)];exact ⟨rfl,sv⟩
end
end
section
section
variable {D:Nat->Prop} {W:World} {k:Bs} {st:St} {c:Nat}
def Qxa (w:World) (g:Nat):List Int:=match w.heap[g]? with | some (.cells cs _ _)=>cs.toList.map intOf | _=>[]
theorem Q0u {w:World} {p g:Nat} {r:Int} {L:List Int} (h:SegP w p g r L):Qxa w g=L:=by
 have e:w.heap[g]?=some (.cells (u8s L).toArray 5 (0,0)):=h.hg;unfold Qxa;rw [e];simp [u8s,List.map_map,Function.comp_def,intOf]
set_option maxHeartbeats 2000000 in
theorem Q15 (n:Int) (h:StV D W k st c):Calls prog 74 #[.pointer (some ⟨k.ps,0,none⟩),.int .i64 n] W λ e w'=>e=.returned (.tuple #[.int .i64 (Qa6 st.s st.zs n st.L).1,.bool (Qa6 st.s st.zs n st.L).2.1])/\Sv D W k {st with L:=(Qa6 st.s st.zs n st.L).2.2} c w':=by
 have H:=Jh1 h;clear h;go_enter func74,ntmps74
 go_wp2
 go_loopw [6] (λ _ wr=>∃L',Sv D W k {st with L:=L'} c wr/\Qa6 st.s st.zs n L'=Qa6 st.s st.zs n st.L) (λ _ wr=>muZ (Qxa wr k.gg))
 case atStart=>exact ⟨st.L,Sv.start H.out,rfl⟩
 case round=>
  obtain ⟨L',⟨D',hv,hD,ho⟩,he⟩:=hrel;have hm:muZ (Qxa wr k.gg)=muZ L':=by rw [Q0u hv.sg]
  rw [hm];clear hm;have hcur:=Qte hv;have HS:=Jh3 hD ho he;have HC:Hid (Calls prog 136 #[.pointer (some ⟨k.ps,0,none⟩)] wr λ e w'=>e=.returned (.tuple #[.int .i64 (curA L'),.bool (curB L')])/\Sv D W k {st with L:=curL L'} c w'):=by
   refine hcur.mono ?_
   rintro e w' ⟨rfl,sv⟩;exact ⟨rfl,Sv.next hD ho sv⟩
  clear hcur hD ho he hv;cases hb:curB L' with
  | false=>
   have hd:=Qdc (s:=st.s) (zs:=st.zs) (k:=n) (L:=L') (by rw [hb];simp);have HO:Hid (Qa6 st.s st.zs n st.L=(curA L',false,curL L')):=by rw [<-(Jz2 HS)];exact hd.trans (by rw [hb])
   rw [hb] at HC;clear hb hd;go_wp2_with (go_at_call 136;refine HC.out.mono ?_;rintro e w2 ⟨rfl,sv⟩)
   go_ret2
   rw [HO.out];exact ⟨rfl,sv⟩
  | true=>
   rcases Int.lt_or_le (Qbv st.s st.zs (curA L')) n with hr | hr
   ·have HM:Hid (muZ (Qcm (curL L') (curA L') 2 3)+1=muZ L'/\Qa6 st.s st.zs n (Qcm (curL L') (curA L') 2 3)=Qa6 st.s st.zs n st.L):=⟨Qoe hb,by rw [Qkm hb hr];exact (Jz2 HS)⟩
    have hr':¬n<=Qbv st.s st.zs (curA L'):=by omega
    obtain ⟨R,hR⟩:∃R,R=Qbv st.s st.zs (curA L'):=⟨_,rfl⟩
    rw [<-hR] at hr';rw [hb] at HC;have HC2:Hid (Calls prog 136 #[.pointer (some ⟨k.ps,0,none⟩)] wr λ e w'=>e=.returned (.tuple #[.int .i64 (curA L'),.bool true])/\Calls prog 78 #[.pointer (some ⟨k.ps,0,none⟩),.int .i64 (curA L')] w' λ e w''=>e=.returned (.int .i64 R)/\w''.cell? ⟨k.ps,1,none⟩=some (.pointer (some ⟨k.pg,0,none⟩))/\Calls prog 137 #[.pointer (some ⟨k.pg,0,none⟩),.int .i64 (curA L')] w'' λ e w3=>(∃v,e=.returned v)/\Sv D W k {st with L:=Qcm (curL L') (curA L') 2 3} c w3):=by
     refine HC.out.mono ?_
     rintro e w' ⟨rfl,D2,hv2,hD2,ho2⟩;refine ⟨rfl,(Qib (curA L') hv2).mono ?_⟩
     rintro e w'' ⟨rfl,hb2⟩;have hv3:=hv2.under hb2;refine ⟨by rw [hR],hv3.cells.2.1,(Qr6 k.pg k.gg st.s.r (curL L') (curA L') w'' hv3.sg).mono ?_⟩
     rintro e w3 ⟨rfl,h1,h2⟩;exact ⟨⟨_,rfl⟩,Sv.next hD2 (ho2.under hb2) (hv3.sgstep h1 h2 (Qbz _ _ _ _))⟩
    clear HC hb hr hR;go_wp2_with (first
     | (go_at_call 136;refine HC2.out.mono ?_;rintro e w2 ⟨rfl,hro⟩)
     | (go_at_call 78;refine hro.mono ?_;rintro e w3 ⟨rfl,x1,hfi⟩)
     | (go_at_call 137;refine hfi.mono ?_;rintro e w4 ⟨⟨v4,rfl⟩,sv⟩))
    go_roundw
    case rel=>exact ⟨_,sv,HM.out.2⟩
    case measure=>
     obtain ⟨D4,hv4,_⟩:=sv;rw [Q0u hv4.sg];have:=HM.out.1;simp only
     omega
   ·have hd:=Qdc (s:=st.s) (zs:=st.zs) (k:=n) (L:=L') (by omega)
    have HO:Hid (Qa6 st.s st.zs n st.L=(curA L',true,curL L')):=by rw [<-(Jz2 HS)];exact hd.trans (by rw [hb])
    obtain ⟨R,hR⟩:∃R,R=Qbv st.s st.zs (curA L'):=⟨_,rfl⟩
    rw [<-hR] at hr;rw [hb] at HC;have HC2:Hid (Calls prog 136 #[.pointer (some ⟨k.ps,0,none⟩)] wr λ e w'=>e=.returned (.tuple #[.int .i64 (curA L'),.bool true])/\Calls prog 78 #[.pointer (some ⟨k.ps,0,none⟩),.int .i64 (curA L')] w' λ e w''=>e=.returned (.int .i64 R)/\Sv D W k {st with L:=curL L'} c w''):=by
     refine HC.out.mono ?_
     rintro e w' ⟨rfl,D2,hv2,hD2,ho2⟩;refine ⟨rfl,(Qib (curA L') hv2).mono ?_⟩
     rintro e w'' ⟨rfl,hb2⟩;exact ⟨by rw [hR],D2,hv2.under hb2,hD2,ho2.under hb2⟩
    clear HC hb hd hR;go_wp2_with (first
     | (go_at_call 136;refine HC2.out.mono ?_;rintro e w2 ⟨rfl,hro⟩)
     | (go_at_call 78;refine hro.mono ?_;rintro e w3 ⟨rfl,sv⟩))
    go_ret2
    rw [HO.out];exact ⟨rfl,sv⟩
theorem PtsIn.at (X:Nat->Prop) {w:World} {a:Option Addr} {n:Nat} {l:List Pt} (h:PtsIn X w a n l) {i:Nat} (hi:i<n):∃(p:Pt) (b off:Nat),l[i]?=some p/\a=some ⟨b,off,none⟩/\X b/\PtAt X w b (off+i*4) p:=by
 obtain ⟨b,off,rfl,hb,hc⟩:=h.2.2.resolve_left (by omega);have:i<l.length:=by rw [h.1];exact hi
 exact ⟨l[i],b,off,by simp [this],rfl,hb,hc i _ (by simp [this])⟩
theorem Qz9 {α:Type} {l:List α} {j:Nat} {p:α} (h:l[j]?=some p):l.drop j=p :: l.drop (j+1):=by
 have hj:=(List.getElem?_eq_some_iff.1 h).1;have e:=(List.getElem?_eq_some_iff.1 h).2;rw [List.drop_eq_getElem_cons hj,e]
theorem Q24 {l:List Pt} {i j n:Nat} {d:Int} (hl:l.length=n) (h:j=n\/j=i):frN (l.drop j) (i - j) d=0:=by
 rcases h with h | h
 ·rw [List.drop_of_length_le (by omega)]
  rfl
 ·subst h
  rw [Nat.sub_self];cases l.drop j <;> rfl
theorem Qy9 {l:List Pt} {i j:Nat} {d:Int} {p:Pt} (hp:l[j]?=some p) (hi:j<i):frN (l.drop j) (i - j) d=if p.x=true then frN (l.drop (j+1)) (i - (j+1)) d+1 else if 0<d then frN (l.drop (j+1)) (i - (j+1)) (d - 1)+1 else 0:=by
 rw [Qz9 hp,show i - j=(i - (j+1))+1 by omega];rfl
set_option maxHeartbeats 2000000 in
theorem Qzt (a:Option Addr) (n cc:Nat) (l:List Pt) (X:Nat->Prop) (i:Nat) (d:Int) (h:PtsIn X W a n l) (hcc:n<=cc) (hi:i<=1000) (hd:-1<=d/\d<=10000):Calls prog 76 #[.slice a n cc,.int .i64 (i:Nat),.int .i64 d] W λ e w'=>e=.returned (.slice a (frN l i d) cc)/\Below W.heap.size W w':=by
 have hn:n<=1000:=h.2.1;have H:=Jh1 h;clear h;go_enter func76,ntmps76
 go_wp2
 go_step3
 go_wp2
 go_step3
 go_wp2
 go_loopw [2,7] (λ dv nv wr=>∃(j:Nat) (d':Int),nv=.int .i64 j/\dv=.int .i64 d'/\-1<=d'/\d'<=10000/\j<=n/\j<=i/\frN l i d=j+frN (l.drop j) (i - j) d'/\wr=W) (λ _ nv _=>n - (intOf nv).toNat)
 case atStart=>exact ⟨0,d,rfl,rfl,hd.1,hd.2,Nat.zero_le _,Nat.zero_le _,by simp,rfl⟩
 case round=>
  obtain ⟨j,d',rfl,rfl,hd1,hd2,hjn,hji,hf,rfl⟩:=hrel;have HF:=Jh1 hf;clear hf;by_cases hlt:j<n/\j<i
  ·obtain ⟨hjn',hji'⟩:=hlt
   obtain ⟨p,b,off,hp,rfl,hb,A,L,C,hc,_⟩:=H.out.at X hjn';have x2:wr.cell? ⟨b,off+j*4+2,none⟩=some (.bool p.x):=hc 2 _ rfl;have hstep:=Qy9 (d:=d') hp hji';have hwk:IntKind.i64.wrap ((j:Int)+1)=(j:Int)+1:=by rw [IntKind.wrap_i64];omega
   have hwd:IntKind.i64.wrap (d' - 1)=d' - 1:=by rw [IntKind.wrap_i64];omega
   clear hc;cases hx:p.x with
   | true=>
    rw [hx,if_pos rfl] at hstep;have HF2:Hid (frN l i d=(j+1)+frN (l.drop (j+1)) (i - (j+1)) d'):=by have:=HF.out;rw [hstep] at this;exact (by omega:frN l i d=(j+1)+frN (l.drop (j+1)) (i - (j+1)) d')
    rw [hx] at x2;clear hx hstep hp;rcases Nat.lt_or_ge i n with hin | hin
    all_goals (
     go_wp2
     go_roundw
     case rel=>exact ⟨j+1,d',by simp,rfl,hd1,hd2,by omega,by omega,HF2.out,trivial⟩
     case measure=>simp [intOf];omega)
   | false=>
    rw [hx,if_neg (by decide)] at hstep;rw [hx] at x2;clear hx hp;rcases Int.lt_or_le 0 d' with hd0 | hd0
    ·rw [if_pos hd0] at hstep
     have HF2:Hid (frN l i d=(j+1)+frN (l.drop (j+1)) (i - (j+1)) (d' - 1)):=by have:=HF.out;rw [hstep] at this;exact (by omega:frN l i d=(j+1)+frN (l.drop (j+1)) (i - (j+1)) (d' - 1))
     clear hstep;rcases Nat.lt_or_ge i n with hin | hin
     all_goals (
      go_wp2
      go_roundw
      case rel=>exact ⟨j+1,d' - 1,by simp,rfl,by omega,by omega,by omega,by omega,HF2.out,trivial⟩
      case measure=>simp [intOf];omega)
    ·rw [if_neg (by omega)] at hstep
     have HF2:Hid (frN l i d=j):=by have:=HF.out;rw [hstep] at this;exact this
     clear hstep;have hd0':¬0<d':=by omega
     rcases Nat.lt_or_ge i n with hin | hin
     all_goals (
      go_wp2
      all_goals (
       go_ret
       exact ⟨by rw [HF2.out];rfl,Below.refl _ _⟩))
  ·have HF2:Hid (frN l i d=j):=by have:=HF.out;rw [Q24 H.out.1 (by omega)] at this;exact this
   rcases Nat.lt_or_ge i n with hin | hin
   ·obtain rfl:j=i:=by omega
    go_wp2
    all_goals (
     first | go_ret | (rw [Exit.noGoto_ret];go_ret)
     exact ⟨by rw [HF2.out];rfl,Below.refl _ _⟩)
   ·obtain rfl:j=n:=by omega
    go_wp2
    all_goals (
     first | go_ret | (rw [Exit.noGoto_ret];go_ret)
     exact ⟨by rw [HF2.out];rfl,Below.refl _ _⟩)
set_option maxHeartbeats 2000000 in
theorem Qy3 (p:Pt) (A:Option Addr) (L C:Nat) (h:BIn W A L p.d) (hL:L<=10000):Calls prog 138 #[ptV p (.slice A L C)] W λ e w'=>e=.returned (.agg #[.int .u32 (itP p).t,.int .u64 (itP p).b,.int .u8 (itP p).k,.int .u32 (itP p).s,.int .u16 (itP p).e])/\Below W.heap.size W w':=by
 obtain ⟨t,b,x,d⟩:=p;unfold ptV;cases x
 ·obtain ⟨E,hE⟩:∃E,E=Qdl d:=⟨_,rfl⟩
  obtain ⟨Z,hZ⟩:∃Z,Z=crI 0 d:=⟨_,rfl⟩
  have hE1:E<=L:=by have:=(Qhh d).1;rw [hE,<-h.1];exact this
  have hwE:IntKind.u16.wrap (E:Int)=(E:Int):=by rw [IntKind.wrap_u16];omega
  have HI:Hid (itP ⟨t,b,false,d⟩=⟨t,b,1,Z,(E:Nat)⟩):=by rw [hE,hZ];exact rfl
  have HB:Hid (∀X,Below W.heap.size W X->BIn X A L d):=λ X hX=>h.below hX
  have HS:Hid (∀(X:World) (g:Nat),X.cell? ⟨g,0,none⟩=some (.slice A L C)->Below W.heap.size W X->Calls prog 206 #[.slice (some ⟨g,0,none⟩) 1 1] X λ e w'=>e=.returned (.int .u32 Z)/\w'=X):=λ X g hc hX=>by rw [hZ];exact Qge g A L C 1 d X hc (h.below hX)
  have HN:Hid (∀X,Below W.heap.size W X->Calls prog 207 #[.slice A L C] X λ e w'=>e=.returned (.int .i64 (E:Nat))/\w'=X):=λ X hX=>by rw [hE];exact Qo5 A L C d X (h.below hX)
  clear h hE hZ;obtain ⟨q,hq⟩:∃q,q=W.heap.size:=⟨_,rfl⟩
  have HW:Hid (∀X,X=(((W.alloc (.cells #[.int .u32 t,.int .u64 b,.bool false,.slice A L C] 73)).alloc (.cells #[.int .u32 0,.int .u64 0,.int .u8 0,.int .u32 0,.int .u16 0] 190)).alloc (.cells #[.int .u32 t,.int .u64 b,.int .u8 2,.int .u32 0,.int .u16 0] 190))->Blk X q [.int .u32 t,.int .u64 b,.bool false,.slice A L C] 73/\Blk X (q+1) [.int .u32 0,.int .u64 0,.int .u8 0,.int .u32 0,.int .u16 0] 190/\Blk X (q+1+1) [.int .u32 t,.int .u64 b,.int .u8 2,.int .u32 0,.int .u16 0] 190/\Below W.heap.size W X/\X.heap.size=q+1+1+1):=by
   rintro X rfl;exact ⟨((Blk.new' hq.symm rfl).alloc _).alloc _,(Blk.new' (by simp [hq]) rfl).alloc _,Blk.new' (by simp [hq]) rfl,(((Below.refl _ _).alloc (Nat.le_refl _) _).alloc (by simp) _).alloc (by simp;omega) _,by simp [hq]⟩
  go_enter func138,ntmps138
  go_wp2_with fail
  rw [<-hq];generalize hX:World.alloc (World.alloc (World.alloc W _) _) _=X;obtain ⟨hb1,hb0,hb2,hbl,hsz⟩:=HW.out X hX.symm;have z0:=hb0.cell 0;have z1:=hb0.cell 1;have z2:=hb0.cell 2;have z3:=hb0.cell 3;have z4:=hb0.cell 4;have g0:=hb0.frozen 0;have g1:=hb0.frozen 1;have g2:=hb0.frozen 2;have g3:=hb0.frozen 3;have g4:=hb0.frozen 4;have x3:=hb1.cell 3;have y0:=hb2.cell 0;have y1:=hb2.cell 1;have y2:=hb2.cell 2;have y3:=hb2.cell 3;have y4:=hb2.cell 4;have f2:=hb2.frozen 2;have f3:=hb2.frozen 3;have f4:=hb2.frozen 4;simp only [List.getElem?_cons_zero,List.getElem?_cons_succ] at x3 y0 y1 y2 y3 y4 z0 z1 z2 z3 z4
  have n1:q≠q+1+1:=by omega
  have n2:q+1+1≠q:=by omega
  have n3:q+1+1+1≠q+1+1:=by omega
  have n4:q+1+1≠q+1+1+1:=by omega
  have n5:q+1≠q+1+1:=by omega
  have n6:q+1+1≠q+1:=by omega
  have n7:q+1≠q+1+1+1:=by omega
  have n8:q+1+1+1≠q+1:=by omega
  have HX:=Jh3 hb0 hbl hq;clear hb0 hb1 hb2 hbl hq hX HW;go_region_with (first
   | (go_at_call 206;refine (HS.out _ _ (by first | exact (Blk.new' hsz rfl).drew.cell 0 | exact (Blk.new' hsz rfl).cell 0) (by first | exact Qhg ((J2 HX).alloc (J2 HX).size _) | exact (J2 HX).alloc (J2 HX).size _)).mono ?_;rintro e w' ⟨rfl,rfl⟩)
   | (go_at_call 207;refine (HN.out _ (by first | exact Qhg ((J2 HX).alloc (J2 HX).size _) | exact (J2 HX).alloc (J2 HX).size _)).mono ?_;rintro e w' ⟨rfl,rfl⟩))
  all_goals go_wp2
  all_goals (
   have hfin:=(((((((((HX.out.1.set_other (a:=⟨q+1+1,2,none⟩) n5 (.int .u8 1)).set_other (a:=⟨q+1+1,3,none⟩) n5 (.int .u32 Z)).set_other (a:=⟨q+1+1,4,none⟩) n5 (.int .u16 (E:Nat))).set 0 (.int .u32 t)).set 1 (.int .u64 b)).set 2 (.int .u8 1)).set 3 (.int .u32 Z)).set 4 (.int .u16 (E:Nat))).alloc (.cells #[.slice A L C] 71)).drew;refine bodyPost_ret (Qap (p:=2) (ty:=190) rfl _ _ _ _ _ _ rfl hfin Tryz.underlying190 rfl Tryz.info_item) rfl ⟨by rw [HI.out];rfl,?_⟩
   have hq:=(Jz2 HX)
   refine Qhg (Below.alloc ?_ (by simp;omega) _)
   repeat refine Below.setCell ?_ (by simp;omega) _
   exact (J2 HX))
 ·obtain ⟨q,hq⟩:∃q,q=W.heap.size:=⟨_,rfl⟩
  have HW:Hid (∀X,X=(((W.alloc (.cells #[.int .u32 t,.int .u64 b,.bool true,.slice A L C] 73)).alloc (.cells #[.int .u32 t,.int .u64 b,.int .u8 2,.int .u32 0,.int .u16 0] 190)).alloc (.cells #[.int .u32 t,.int .u64 b,.int .u8 2,.int .u32 0,.int .u16 0] 190))->Blk X (W.heap.size+1) [.int .u32 t,.int .u64 b,.int .u8 2,.int .u32 0,.int .u16 0] 190/\Below W.heap.size W X):=by
   rintro X rfl;exact ⟨(Blk.new' (by simp) rfl).alloc _,(((Below.refl _ _).alloc (Nat.le_refl _) _).alloc (by simp) _).alloc (by simp;omega) _⟩
  go_enter func138,ntmps138
  go_wp2_with fail
  exact bodyPost_ret (Qap (p:=2) (ty:=190) rfl _ _ _ _ _ _ rfl (HW.out _ rfl).1 Tryz.underlying190 rfl Tryz.info_item) rfl ⟨rfl,(HW.out _ rfl).2⟩
end
end
section
theorem Qzf (q:Int):IntKind.u64.wrap (q+1)=incU q:=by
 simp [IntKind.wrap,incU,IntKind.bits,IntKind.signed]
theorem PtsIn.len {X:Nat->Prop} {w:World} {a:Option Addr} {n:Nat} {l:List Pt} (h:PtsIn X w a n l):∀p∈l,p.d.length<=10000:=by
 intro p hp;obtain ⟨i,hi⟩:=List.getElem?_of_mem hp;rcases h.2.2 with h0 | ⟨b,off,_,_,hc⟩
 ·have:=(List.getElem?_eq_some_iff.1 hi).1;have:=h.1;omega
 ·obtain ⟨_,_,_,_,h2,_,h4,_⟩:=hc i p hi
  have:=h2.1;omega
theorem Qp4 {p:Pt} (h:p.Fits) (hl:p.d.length<=10000):(itP p).Fits:=by
 have he:Qdl p.d<=p.d.length:=(Qhh p.d).1;unfold itP;split
 ·exact ⟨h.1,h.2.1,by show Qaf 2;unfold Qaf;omega,by show Qas 0;unfold Qas;omega,by show Qb4 0;unfold Qb4;omega⟩
 ·exact ⟨h.1,h.2.1,by show Qaf 1;unfold Qaf;omega,Qds (by unfold Qas;omega) h.2.2,by show Qb4 ((Qdl p.d:Nat):Int);unfold Qb4;omega⟩
theorem Qp2 (q:Int) (xs:List It) (b:Int):(encB q xs b).length<=4096:=by
 unfold encB;split
 ·rename_i h
  have:=h.bounds;rw [Qfm (by omega)];omega
 ·simp
theorem Qv7 (q:Int) (xs:List It) (b:Int):∀z∈encB q xs b,Qaf z:=by
 unfold encB;split
 ·exact Qk9 _ _ _
 ·simp
structure WI (q:Nat) (V wr:World) (S:Int) (A:Option Addr) (j C:Nat) (xs:List It):Prop where
 rc:Blk wr q [.int .u64 S,.slice A j C] 177
 ow:wr.ownsRow (q+1) 190 5 (.slice A j C) j (itC xs)
 bel:Below q V wr
section
variable {q:Nat} {V wr w':World} {S:Int} {A:Option Addr} {j C:Nat} {xs:List It}
theorem WI.below (h:WI q V wr S A j C xs) (hb:Below wr.heap.size wr w'):WI q V w' S A j C xs:=by
 have h1:=h.rc.lt;refine ⟨h.rc.below hb h1,?_,h.bel.trans (hb.mono (by omega))⟩
 refine ⟨h.ow.1,?_⟩
 rcases h.ow.2 with h2 | ⟨g,cap,cur,hv,hbg,hg,hr⟩
 ·exact .inl h2
 ·exact .inr ⟨g,cap,cur,hv,hbg,by rw [hb.block g (Array.getElem?_eq_some_iff.1 hg).1];exact hg,hr⟩
theorem WI.more {A':Option Addr} {C':Nat} {x:It} (h:WI q V wr S A j C xs) (ho:w'.ownsRow (q+1) 190 5 (.slice A' (j+1) C') (j+1) (itC (xs ++ [x]))) (hb:Below (q+1) wr w'):WI q V (w'.setCell ⟨q,1,none⟩ (.slice A' (j+1) C')) S A' (j+1) C' (xs ++ [x]):=
 ⟨(h.rc.below hb (by omega)).set 1 _,Qbj ho (by show q<q+1;omega) _,(h.bel.trans (hb.mono (by omega))).setCell (by show q<=q;omega) _⟩
end
section
variable {D:Nat->Prop} {W:World} {k:Bs} {st:St} {c:Nat}
theorem StV.poke {g:Nat} (h:StV D W k st c) (hg:¬StO D k g) (i:Nat) (u:Value):StV D (W.setCell ⟨g,i,none⟩ u) k st c:=
 h.out (Qdg W g i u) (λ x hx e=>hg (e ▸ hx))
theorem Quy {s:Sh} {zs:List Zn} (h:Wf s zs) {z:Nat} (hz:z<zs.length) (E:List Int):Qj8 (appA s zs z E):=by
 have h1:=h.at_le z;have h2:=h.right.2.2.2.1;have h3:=h.len;have h4:=h.right.2.1;unfold appA;split
 ·split
  ·exact ⟨by show I64 0;unfold I64;omega,by show I64 0;unfold I64;omega⟩
  ·exact ⟨by show I64 (z:Int);unfold I64;omega,by show I64 _;unfold I64;omega⟩
 ·exact ⟨by show I64 0;unfold I64;omega,by show I64 0;unfold I64;omega⟩
set_option maxHeartbeats 8000000 in
theorem Qzo (z:Nat) (h:StV D W k st c) (hz:z<st.zs.length) (a:Option Addr) (n cc:Nat) (l:List Pt) (X:Nat->Prop) (hl:PtsIn X W a n l) (hX:∀x,X x->¬StO D k x/\x<W.heap.size) (hc:c+n<100000) :
  Calls prog 79 #[.pointer (some ⟨k.ps,0,none⟩),.int .i64 (z:Nat),.slice a n cc] W λ e w'=>e=.returned (.tuple #[])/\Sv D W k (Qcu st z l) (c+n) w':=by
 obtain ⟨c0,c1,c2,c3,c4,c5⟩:=h.cells;have f3:=h.hp.frozen 3;have hq:=Qzf st.q;have H:=Jh5 h hl hX hc hz;have HV1:Hid (Sv D W k {st with q:=incU st.q} c (W.setCell ⟨k.ps,3,none⟩ (.int .u64 (incU st.q)))):=h.setP (q:=incU st.q) (o:=st.o) rfl (Qns _);have hlaz:z<st.la.length:=by rw [h.len.2];exact hz
 have hn1:=hl.2.1;clear h hl hX hc hz;go_enter func79,ntmps79
 go_upto_region 1 with fail
 clear c0 c1 c2 c3 c4 c5 f3 hq;generalize hW1:World.setCell W _ _=W1 at HV1 ⊢;clear hW1;obtain ⟨D1,hv1,hD1,ho1⟩:=HV1.out;obtain ⟨c0,c1,c2,c3,c4,c5⟩:=hv1.cells;obtain ⟨old,y0⟩:∃old,W1.cell? ⟨k.lb,z,none⟩=some (.int .u64 old):=⟨st.la[z],by rw [hv1.hl.cell];simp [Qaj,hlaz]⟩
 have yf:=hv1.hl.frozen z;have n1:k.ps≠k.lb:=(Qm9 hv1.ap).1.2.2.2.2.2;have n2:k.lb≠k.ps:=λ e=>n1 e.symm
 have HV2:Hid (Sv D W k {st with q:=incU st.q,la:=st.la.set z (incU st.q)} c (W1.setCell ⟨k.lb,z,none⟩ (.int .u64 (incU st.q)))):=Sv.next hD1 ho1 (hv1.setLa z (incU st.q));clear hv1 hD1 ho1 HV1 c0 c1 c2 c5;simp only at c3 c4
 go_region
 clear c3 c4 y0 yf n1 n2 hlaz;have HV3:Hid (Sv D W k {st with q:=incU st.q,la:=st.la.set z (incU st.q)} c (W1.setCell ⟨k.lb,z,none⟩ (.int .u64 (incU st.q))).drew):=HV2.out.under (Below.refl _ _).drew;clear HV2;generalize World.drew (World.setCell W1 _ _)=W2 at HV3 ⊢;clear W1;obtain ⟨D2,hv2,hD2,ho2⟩:=HV3.out;obtain ⟨_,_,_,c3,_⟩:=hv2.cells;simp only at c3
 obtain ⟨q,hq⟩:∃q,q=W2.heap.size:=⟨_,rfl⟩
 have HR:Hid (Blk (W2.alloc (.cells #[.int .u64 (incU st.q),.slice none 0 0] 177)) q [.int .u64 (incU st.q),.slice none 0 0] 177/\Below q W2 (W2.alloc (.cells #[.int .u64 (incU st.q),.slice none 0 0] 177))/\(W2.alloc (.cells #[.int .u64 (incU st.q),.slice none 0 0] 177)).heap.size=q+1):=⟨Blk.new' hq.symm rfl,(Below.refl _ _).alloc (by omega) _,by simp [hq]⟩
 have HQ:=Jh1 hq;clear hv2 hD2 ho2;go_wp2_with fail
 rw [<-hq];clear hq c3;generalize World.alloc W2 _=W3 at HR ⊢;have HW3:Hid (WI q W2 W3 (incU st.q) none 0 0 []):=⟨HR.out.1,World.ownsRow_nil _ _ _ _,(J2 HR)⟩
 have HP:Hid (∀V,Below q W2 V->PtsIn X V a n l):=λ V hb=>by
  obtain ⟨D2,hv2,hD2,ho2⟩:=HV3.out;exact ((J2 H).out ho2 (λ x hx=>((J3 H) x hx).1)).out (below_out' (O:=λ j=>q<=j) hb (λ j h _=>h)) (λ x hx=>by have:=((J3 H) x hx).2;have:=ho2.size;have:=HQ.out;omega)
 clear HR;go_loopw [39] (λ x wr=>∃(j:Nat) (A:Option Addr) (C:Nat),x=.int .i64 j/\j<=n/\WI q W2 wr (incU st.q) A j C ((l.take j).map itP)) (λ x _=>n - (intOf x).toNat)
 case atStart=>exact ⟨0,none,0,rfl,Nat.zero_le _,by simpa using HW3.out⟩
 case round=>
  obtain ⟨j,A,C,rfl,hj,hw⟩:=hrel;rcases Nat.lt_or_ge j n with hlt | hge
  ·have hj':(j:Int)<n:=by omega
   have hwj:IntKind.i64.wrap ((j:Int)+1)=(j:Int)+1:=by rw [IntKind.wrap_i64];omega
   obtain ⟨p,b,off,hp,rfl,hb,A1,L1,C1,hcl,hbin,_,hL1,_,hfit⟩:=(HP.out wr hw.bel).at X hlt;have x0:wr.cell? ⟨b,off+j*4,none⟩=some (.int .u32 p.t):=hcl 0 _ rfl;have x1:wr.cell? ⟨b,off+j*4+1,none⟩=some (.int .u64 p.b):=hcl 1 _ rfl;have x2:wr.cell? ⟨b,off+j*4+2,none⟩=some (.bool p.x):=hcl 2 _ rfl;have x3:wr.cell? ⟨b,off+j*4+3,none⟩=some (.slice A1 L1 C1):=hcl 3 _ rfl;obtain ⟨g,hg⟩:∃g,g=wr.heap.size:=⟨_,rfl⟩
   have HV:Hid (WI q W2 (wr.alloc (.cells #[.int .u32 p.t,.int .u64 p.b,.bool p.x,.slice A1 L1 C1] 73)) (incU st.q) A j C ((l.take j).map itP)/\Blk (wr.alloc (.cells #[.int .u32 p.t,.int .u64 p.b,.bool p.x,.slice A1 L1 C1] 73)) g [.int .u32 p.t,.int .u64 p.b,.bool p.x,.slice A1 L1 C1] 73):=⟨hw.below ((Below.refl _ _).alloc (Nat.le_refl _) _),Blk.new' hg.symm rfl⟩
   have HI:Hid (∀V,Below g wr V->Calls prog 138 #[.agg #[.int .u32 p.t,.int .u64 p.b,.bool p.x,.slice A1 L1 C1]] V λ e w'=>e=.returned (.agg #[.int .u32 (itP p).t,.int .u64 (itP p).b,.int .u8 (itP p).k,.int .u32 (itP p).s,.int .u16 (itP p).e])/\Below V.heap.size V w'):=λ V hV=>Qy3 p A1 L1 C1 (hbin.below (by rw [<-hg];exact hV)) hL1
   have hBV:Hid (Below g wr (wr.alloc (.cells #[.int .u32 p.t,.int .u64 p.b,.bool p.x,.slice A1 L1 C1] 73))):=(Below.refl _ _).alloc (by omega) _;have HN:Hid ((l.take (j+1)).map itP=(l.take j).map itP ++ [itP p]):=by show _=_;rw [Qao hp];simp
   generalize (l.take j).map itP=xs at HV HN;clear hcl hbin hL1 hfit hp hw hb;go_wp2
   rw [<-hg];clear x0 x1 x2 x3 hg;generalize World.alloc wr _=V at HV hBV ⊢;have v1:V.cell? ⟨q,1,none⟩=some (.slice A j C):=HV.out.1.rc.cell 1;have y0:V.cell? ⟨g,0,none⟩=some (.int .u32 p.t):=HV.out.2.cell 0;have y1:V.cell? ⟨g,1,none⟩=some (.int .u64 p.b):=HV.out.2.cell 1;have y2:V.cell? ⟨g,2,none⟩=some (.bool p.x):=HV.out.2.cell 2;have y3:V.cell? ⟨g,3,none⟩=some (.slice A1 L1 C1):=HV.out.2.cell 3;go_region_law (first
    | (go_simp;go_at_call 138;refine (HI.out _ (by first | exact hBV.out.drew | exact hBV.out)).mono ?_;rintro e V4 ⟨rfl,b4⟩;have st4:WI q W2 V4 (incU st.q) A j C xs:=HV.out.1.below ((Below.refl _ _).drew.trans b4);have m2:V4.cell? ⟨q,1,none⟩=some (.slice A j C):=st4.rc.cell 1;have m3:∀o,(V4.alloc o).cell? ⟨q,1,none⟩=some (.slice A j C):=λ o=>(st4.rc.alloc o).cell 1;obtain ⟨a9,c9,w9,e9,o9,b9⟩:=Qqy st4.ow (itP p) (by omega) (by have:=st4.rc.lt;omega);have rc9:=st4.rc.below b9 (by omega);have m4:w9.cell? ⟨q,1,none⟩=some (.slice A j C):=rc9.cell 1;have m5:=rc9.frozen 1;have st9:=st4.more o9 b9)
    | (refine Qaq rfl (.tmp 44) (.tmp 47) 175 175 rfl _ _ rfl rfl _ _ e9 ?_))
   all_goals (
    have H9:Hid (WI q W2 (w9.setCell ⟨q,1,none⟩ (.slice a9 (j+1) c9)) (incU st.q) a9 (j+1) c9 ((l.take (j+1)).map itP)):=by
     rw [<-HN.out] at st9;exact st9
    clear e9 o9 b9 rc9 m4 m5 st9 st4 b4 m2 m3 v1 y0 y1 y2 y3;generalize World.setCell w9 _ _=V9 at H9 ⊢;go_wp2
    go_roundw
    case rel=>exact ⟨j+1,a9,c9,by simp,by omega,H9.out⟩
    case measure=>simp [intOf];omega)
  ·obtain rfl:j=n:=by omega
   have HT:Hid (WI q W2 wr (incU st.q) A j C (l.map itP)):=by
    rw [List.take_of_length_le (by rw [(J2 H).1];exact Nat.le_refl _)] at hw;exact hw
   clear hw HW3 HP;obtain ⟨D2,hv2,hD2,ho2⟩:=HV3.out;have hbw:Below W2.heap.size W2 wr:=by rw [<-HQ.out];exact HT.out.bel
   have hv:=hv2.under hbw;have HSv:=Jh3 hv hD2 (ho2.under hbw);have hits:ItsIn wr A j (l.map itP):=Qls HT.out.ow (by unfold maxLen;omega) (λ x hx=>by
    obtain ⟨p,hp,rfl⟩:=List.mem_map.1 hx;exact Qp4 ((J2 H).fits p hp) (PtsIn.len (J2 H) p hp))
   have r0:wr.cell? ⟨q,0,none⟩=some (.int .u64 (incU st.q)):=HT.out.rc.cell 0;have r1:wr.cell? ⟨q,1,none⟩=some (.slice A j C):=HT.out.rc.cell 1;obtain ⟨s0,_⟩:=hv.cells;have hfb:=Tryz.shape_b (.int .i64 st.s.z) (.int .i64 st.s.zb) (.int .i64 st.s.b) (.int .i64 st.s.r);have kc:∀Y,Below wr.heap.size wr Y->Y.cell? ⟨q,0,none⟩=some (.int .u64 (incU st.q))/\Y.cell? ⟨q,1,none⟩=some (.slice A j C)/\Y.cell? ⟨k.ps,0,none⟩=some (.pointer (some ⟨k.pd,0,none⟩)):=λ Y hY=>⟨(HT.out.below hY).rc.cell 0,(HT.out.below hY).rc.cell 1,(hv.under hY).cells.1⟩
   have HSh:Hid (∀Y,Below wr.heap.size wr Y->Calls prog 72 #[.pointer (some ⟨k.pd,0,none⟩)] Y λ e Z=>e=.returned (.agg #[.int .i64 st.s.z,.int .i64 st.s.zb,.int .i64 st.s.b,.int .i64 st.s.r])/\Below wr.heap.size wr Z/\Z.cell? ⟨q,0,none⟩=some (.int .u64 (incU st.q))/\Z.cell? ⟨q,1,none⟩=some (.slice A j C)/\Z.cell? ⟨k.ps,0,none⟩=some (.pointer (some ⟨k.pd,0,none⟩))):=λ Y hY=>by
    refine (Qdf (hv.under hY).dv).mono ?_
    rintro e Z ⟨rfl,hZ⟩;have hb:=hY.trans (hZ.mono hY.size);exact ⟨rfl,hb,kc Z hb⟩
   have HEn:Hid (∀Y,Below wr.heap.size wr Y->Calls prog 139 #[.agg #[.int .u64 (incU st.q),.slice A j C],.int .i64 st.s.b] Y λ e Z=>∃av nv cv ev,e=.returned (.tuple #[.slice av nv cv,.int .u16 ev])/\(BIn Z av nv (encB (incU st.q) (l.map itP) st.s.b)/\(av=none->nv=0/\cv=0)/\Below wr.heap.size wr Z)/\Z.cell? ⟨q,0,none⟩=some (.int .u64 (incU st.q))/\Z.cell? ⟨q,1,none⟩=some (.slice A j C)/\Z.cell? ⟨k.ps,0,none⟩=some (.pointer (some ⟨k.pd,0,none⟩))):=λ Y hY=>by
    refine (Qwf (incU st.q) A j C (l.map itP) st.s.b Y (Qns _) (hits.below hY)).mono ?_
    rintro e Z ⟨av,nv,cv,rfl,ow,hZ,_⟩;have hb:=hY.trans (hZ.mono hY.size);have hnv:nv<=maxLen:=by
     have h1:=ow.1;have h2:=Qp2 (incU st.q) (l.map itP) st.s.b;simp [u8s] at h1
     unfold maxLen;omega
    exact ⟨av,nv,cv,_,rfl,⟨Qcf ow hnv (Qv7 _ _ _),Qhj ow,hb⟩,kc Z hb⟩
   clear hv hv2 hD2 ho2 hbw hits kc;go_wp2_with fail
   go_region_held3 (λ Y=>Y.cell? ⟨q,0,none⟩=some (.int .u64 (incU st.q))/\Y.cell? ⟨q,1,none⟩=some (.slice A j C)/\Y.cell? ⟨k.ps,0,none⟩=some (.pointer (some ⟨k.pd,0,none⟩))) (first | exact ⟨r0,r1,s0⟩ | exact ⟨d0,d1,d2⟩ | exact ⟨e0,e1,e2⟩)
    (first
    | (go_simp;go_at_call 139;refine (HEn.out _ (by exact bY)).mono ?_;rintro e Z ⟨av,nv,cv,ev,rfl,hZ,e0,e1,e2⟩)
    | (go_simp;go_at_call 72;refine (HSh.out _ (by exact (Below.refl _ _).drew)).mono ?_;rintro e Y ⟨rfl,bY,d0,d1,d2⟩))
   have HZ:=Jh1 hZ;clear hZ e0 e1 d0 d1 d2 bY HEn HSh r0 r1 s0 hfb;have HA:Hid (Calls prog 36 #[.pointer (some ⟨k.pd,0,none⟩),.int .i64 (z:Nat),.slice av nv cv] Z λ e w'=>(∃v,e=.returned v)/\Sv D W k {st with q:=incU st.q,la:=st.la.set z (incU st.q),zs:=recZ st z l} c w'):=by
    have hvZ:=HSv.out.1.under (Jz2 HZ);refine (Qjj (z:Nat) av nv cv _ hvZ.dv hvZ.wf HZ.out.1 (J2 HZ) (by have h1:=HZ.out.1.1;have h2:=Qp2 (incU st.q) (l.map itP) st.s.b;omega)).mono ?_
    rintro e w' ⟨rfl,hs⟩;exact ⟨⟨_,rfl⟩,Sv.next (J2 HSv) ((Jz2 HSv).under (Jz2 HZ)) (hvZ.dvstep hs (hvZ.wf.app _ _))⟩
   go_wp2_with (go_at_call 36;refine HA.out.mono ?_;rintro e W5 ⟨⟨v5,rfl⟩,sv5⟩)
   have H5:Hid (Sv D W k {st with q:=incU st.q,la:=st.la.set z (incU st.q),zs:=(wrY st z l 0).1,S:=(wrY st z l 0).2} (c+0) W5):=by rw [Qzp];exact sv5
   clear sv5 HA HZ HT HSv HV3 HQ;clear hj;go_loopw [71] (λ x wr=>∃i:Nat,x=.int .i64 i/\i<=j/\Sv D W k {st with q:=incU st.q,la:=st.la.set z (incU st.q),zs:=(wrY st z l i).1,S:=(wrY st z l i).2} (c+i) wr) (λ x _=>j - (intOf x).toNat)
   case atStart=>exact ⟨0,rfl,Nat.zero_le _,H5.out⟩
   case round=>
    obtain ⟨i,rfl,hi,Di,hvi,hDi,hoi⟩:=hrel;rcases Nat.lt_or_ge i j with hlt2 | hge2
    ·have hi':(i:Int)<j:=by omega
     have hwi:IntKind.i64.wrap ((i:Int)+1)=(i:Int)+1:=by rw [IntKind.wrap_i64];omega
     obtain ⟨p,b,off,hp,rfl,hb,A1,L1,C1,hcl,hbin,hnil1,hL1,hX1,hfit⟩:=((J2 H).out hoi (λ x hx=>((J3 H) x hx).1)).at X hlt2;have x0:wr.cell? ⟨b,off+i*4,none⟩=some (.int .u32 p.t):=hcl 0 _ rfl;have x1:wr.cell? ⟨b,off+i*4+1,none⟩=some (.int .u64 p.b):=hcl 1 _ rfl;have x2:wr.cell? ⟨b,off+i*4+2,none⟩=some (.bool p.x):=hcl 2 _ rfl;have x3:wr.cell? ⟨b,off+i*4+3,none⟩=some (.slice A1 L1 C1):=hcl 3 _ rfl;obtain ⟨g,hg⟩:∃g,g=wr.heap.size:=⟨_,rfl⟩
     have hbV:Below wr.heap.size wr (wr.alloc (.cells #[.int .u32 p.t,.int .u64 p.b,.bool p.x,.slice A1 L1 C1] 73)):=(Below.refl _ _).alloc (Nat.le_refl _) _;have HV:Hid (StV Di (wr.alloc (.cells #[.int .u32 p.t,.int .u64 p.b,.bool p.x,.slice A1 L1 C1] 73)) k {st with q:=incU st.q,la:=st.la.set z (incU st.q),zs:=(wrY st z l i).1,S:=(wrY st z l i).2} (c+i)/\(∀x,Di x->D x\/W.heap.size<=x)/\Out (StO D k) W (wr.alloc (.cells #[.int .u32 p.t,.int .u64 p.b,.bool p.x,.slice A1 L1 C1] 73))/\Blk (wr.alloc (.cells #[.int .u32 p.t,.int .u64 p.b,.bool p.x,.slice A1 L1 C1] 73)) g [.int .u32 p.t,.int .u64 p.b,.bool p.x,.slice A1 L1 C1] 73/\BIn (wr.alloc (.cells #[.int .u32 p.t,.int .u64 p.b,.bool p.x,.slice A1 L1 C1] 73)) A1 L1 p.d/\(wr.alloc (.cells #[.int .u32 p.t,.int .u64 p.b,.bool p.x,.slice A1 L1 C1] 73)).heap.size=g+1):=⟨hvi.under hbV,hDi,hoi.under hbV,Blk.new' hg.symm rfl,hbin.below hbV,by simp [hg]⟩
     have HP:Hid (l[i]?=some p/\(A1=none->L1=0/\C1=0)/\L1<=10000/\p.Fits/\g=wr.heap.size/\(∀x,Di x->x<g)/\(∀x,k.has x->x<g)):=⟨hp,hnil1,hL1,hfit,hg,by rw [hg];exact hvi.lt,by rw [hg];exact hvi.kin⟩
     clear hcl hbin hnil1 hL1 hX1 hfit hp hb hvi hDi hoi hbV;cases hx:p.x with
     | true=>
      rw [hx] at x2;simp only [hx] at HV
      go_wp2_with fail
      rw [<-hg];clear x0 x1 x2 x3 hg;generalize World.alloc wr _=V at HV ⊢;have y0:V.cell? ⟨g,0,none⟩=some (.int .u32 p.t):=(J4 HV).cell 0;have y1:V.cell? ⟨g,1,none⟩=some (.int .u64 p.b):=(J4 HV).cell 1;obtain ⟨_,_,s2,_⟩:=HV.out.1.cells;have HD:Hid (Calls prog 140 #[.pointer (some ⟨k.pm,0,none⟩),.int .u32 p.t,.int .u64 p.b] V.drew λ e w'=>(∃v,e=.returned v)/\Sv D W k {st with q:=incU st.q,la:=st.la.set z (incU st.q),zs:=(wrY st z l (i+1)).1,S:=(wrY st z l (i+1)).2} (c+(i+1)) w'/\w'.cell? ⟨k.ps,2,none⟩=some (.pointer (some ⟨k.pm,0,none⟩))/\w'.cell? ⟨g,0,none⟩=some (.int .u32 p.t)/\w'.cell? ⟨g,1,none⟩=some (.int .u64 p.b)):=by
       have hvd:=HV.out.1.under (Below.refl _ _).drew;refine (Qrv k.pm k.b1 k.b2 _ _ p.n V.drew hvd.mp ⟨(J4 HP).1,(J4 HP).2.1⟩).mono ?_
       rintro e w' ⟨rfl,h1,h2⟩;have sv:=hvd.mpstep h1 h2;obtain ⟨D9,hv9,hD9,ho9⟩:=sv;have bg:=ho9.blk ((J4 HV).drew) (λ h=>by rcases h with h | h;exact absurd ((J6 HP) g h) (by omega);exact absurd ((Jz6 HP) g h) (by omega));refine ⟨⟨_,rfl⟩,Sv.mono (c:=c+i) ?_ (by omega),hv9.cells.2.2.1,bg.cell 0,bg.cell 1⟩
       rw [Qqt HP.out.1];unfold oneP;rw [if_pos hx];exact Sv.next (J2 HV) ((J3 HV).under (Below.refl _ _).drew) ⟨D9,hv9,hD9,ho9⟩
      clear hx;go_region_held3 (λ Y=>Y.cell? ⟨k.ps,2,none⟩=some (.pointer (some ⟨k.pm,0,none⟩))/\Y.cell? ⟨g,0,none⟩=some (.int .u32 p.t)/\Y.cell? ⟨g,1,none⟩=some (.int .u64 p.b)) (first | exact ⟨s2,y0,y1⟩ | exact ⟨t2,z0,z1⟩)
       (first | (go_simp;go_at_call 140;refine HD.out.mono ?_;rintro e V9 ⟨⟨v9,rfl⟩,sv9,t2,z0,z1⟩))
      all_goals (
       have H9:=Jh1 sv9;clear sv9 y0 y1 s2 t2 z0 z1;go_wp2
       go_roundw
       case rel=>exact ⟨i+1,by simp,by omega,H9.out⟩
       case measure=>simp [intOf];omega)
     | false=>
      rw [hx] at x2;simp only [hx] at HV
      go_wp2_with fail
      rw [<-hg];clear x0 x1 x2 x3 hg;generalize World.alloc wr _=V at HV ⊢;have y0:V.cell? ⟨g,0,none⟩=some (.int .u32 p.t):=(J4 HV).cell 0;have y1:V.cell? ⟨g,1,none⟩=some (.int .u64 p.b):=(J4 HV).cell 1;have y3:V.cell? ⟨g,3,none⟩=some (.slice A1 L1 C1):=(J4 HV).cell 3;obtain ⟨s0,_,s2,_⟩:=HV.out.1.cells;obtain ⟨aa,haa⟩:∃aa,aa=appA st.s (wrY st z l i).1 z p.d:=⟨_,rfl⟩
      have HAA:=Jh1 haa;clear haa;have HAp:Hid (∀Y,Below V.heap.size V Y->Calls prog 36 #[.pointer (some ⟨k.pd,0,none⟩),.int .i64 (z:Nat),.slice A1 L1 C1] Y λ e Z=>∃ev,e=.returned (.tuple #[.agg #[.int .i64 aa.1,.int .i64 aa.2],.int .u16 ev])/\(Sv D W k {st with q:=incU st.q,la:=st.la.set z (incU st.q),zs:=appZ st.s (wrY st z l i).1 z p.d,S:=(wrY st z l i).2} (c+i) Z/\Blk Z g [.int .u32 p.t,.int .u64 p.b,.bool false,.slice A1 L1 C1] 73)/\(∀g' L t,g+1<=g'->Blk Y g' L t->Blk Z g' L t)/\Z.cell? ⟨k.ps,0,none⟩=some (.pointer (some ⟨k.pd,0,none⟩))/\Z.cell? ⟨g,3,none⟩=some (.slice A1 L1 C1)/\(∀o,(Z.alloc o).cell? ⟨k.ps,0,none⟩=some (.pointer (some ⟨k.pd,0,none⟩)))/\(∀o,(Z.alloc o).cell? ⟨g,3,none⟩=some (.slice A1 L1 C1))/\(∀g',g+1<=g'->g'<Y.heap.size->∀u1 u2,Sv D W k {st with q:=incU st.q,la:=st.la.set z (incU st.q),zs:=appZ st.s (wrY st z l i).1 z p.d,S:=(wrY st z l i).2} (c+i) ((Z.setCell ⟨g',0,none⟩ u1).setCell ⟨g',1,none⟩ u2))):=λ Y hY=>by
       have hvd:=HV.out.1.under hY;refine (Qjj (z:Nat) A1 L1 C1 p.d hvd.dv hvd.wf ((J5 HV).below hY) (J2 HP) (by have:=(J3 HP);omega)).mono ?_
       rintro e w' ⟨rfl,hs⟩;have sv:=hvd.dvstep hs (hvd.wf.app _ _);obtain ⟨D9,hv9,hD9,ho9⟩:=sv;have hno:∀x,g<=x->¬StO Di k x:=λ x hx h=>by rcases h with h | h;exact absurd ((J6 HP) x h) (by omega);exact absurd ((Jz6 HP) x h) (by omega)
       have bg:=ho9.blk ((J4 HV).below hY (J4 HV).lt) (hno g (Nat.le_refl _));exact ⟨_,by rw [HAA.out],⟨Sv.next (J2 HV) ((J3 HV).under hY) ⟨D9,hv9,hD9,ho9⟩,bg⟩,λ g' L t hg' hb=>ho9.blk hb (hno g' (by omega)),hv9.cells.1,bg.cell 3,λ o=>(hv9.hp.alloc o).cell 0,λ o=>(bg.alloc o).cell 3,λ g' h1 h2 u1 u2=>by
        have hn9:¬StO D9 k g':=λ h=>by
         rcases h with h | h
         ·rcases hD9 g' h with h | h
          ·exact absurd ((J6 HP) g' h) (by omega)
          ·omega
         ·exact absurd ((Jz6 HP) g' h) (by omega)
        have hWg:W.heap.size<=g':=by have e1:=(J3 HV).size;have e2:=(Jz5 HV);omega
        exact ⟨D9,(hv9.poke hn9 0 u1).poke hn9 1 u2,λ x hx=>by
         rcases hD9 x hx with h | h
         ·exact (J2 HV) x h
         ·have e1:=(J3 HV).size;have e2:=hY.size;exact .inr (by omega),((((J3 HV).under hY).trans ho9 (λ j hj=>by
          rcases hj with hj | hj
          ·rcases (J2 HV) j hj with h | h
           ·exact .inl (.inl h)
           ·exact .inr h
          ·exact .inl (.inr hj))).setCell (p:=⟨g',0,none⟩) (.inr hWg) u1).setCell (p:=⟨g',1,none⟩) (.inr hWg) u2⟩⟩
      have HPut:Hid (∀(V7:World) (ga:Nat),g<ga->Sv D W k {st with q:=incU st.q,la:=st.la.set z (incU st.q),zs:=appZ st.s (wrY st z l i).1 z p.d,S:=(wrY st z l i).2} (c+i) V7->Blk V7 g [.int .u32 p.t,.int .u64 p.b,.bool false,.slice A1 L1 C1] 73->Blk V7 ga [.int .i64 aa.1,.int .i64 aa.2] 85->Calls prog 123 #[.pointer (some ⟨k.pm,0,none⟩),.agg #[.int .u32 p.t,.int .u64 p.b,.int .i64 aa.1,.int .i64 aa.2]] V7.drew λ e w'=>(∃v,e=.returned v)/\Sv D W k {st with q:=incU st.q,la:=st.la.set z (incU st.q),zs:=(wrY st z l (i+1)).1,S:=(wrY st z l (i+1)).2} (c+(i+1)) w'/\w'.cell? ⟨k.ps,2,none⟩=some (.pointer (some ⟨k.pm,0,none⟩))/\w'.cell? ⟨g,0,none⟩=some (.int .u32 p.t)/\w'.cell? ⟨g,1,none⟩=some (.int .u64 p.b)/\w'.cell? ⟨ga,0,none⟩=some (.int .i64 aa.1)/\w'.cell? ⟨ga,1,none⟩=some (.int .i64 aa.2)):=by
       intro V7 ga hga sv bp ba;obtain ⟨D7,hv7,hD7,ho7⟩:=sv;have hvd:=hv7.under (Below.refl _ _).drew;have hwi:z<(wrY st z l i).1.length:=by have e1:=HV.out.1.wf.len;have e2:=H.out.1.wf.len;have:=(Jz4 H);simp only at e1;omega
       refine (Qmg k.pm k.b1 k.b2 _ _ (p.n,aa) V7.drew hvd.mp ⟨⟨(J4 HP).1,(J4 HP).2.1⟩,by rw [HAA.out];exact Quy HV.out.1.wf hwi _⟩ (by have:=(J4 H);omega)).mono ?_
       rintro e w' ⟨rfl,h1,h2⟩;have sv:=hvd.mpstep h1 h2;have hno:∀x,g<=x->¬Two k.b1 k.b2 x:=λ x hx h=>by
        rcases h with h | h
        ·exact absurd ((Jz6 HP) x (by rw [h];exact .inr (.inr (.inr (.inr (.inl rfl)))))) (by omega)
        ·exact absurd ((Jz6 HP) x (by rw [h];exact .inr (.inr (.inr (.inr (.inr (.inl rfl))))))) (by omega)
       have bg:=h2.blk bp.drew (hno g (Nat.le_refl _));have bga:=h2.blk ba.drew (hno ga (by omega));obtain ⟨D9,hv9,hD9,ho9⟩:=sv;refine ⟨⟨_,rfl⟩,Sv.mono (c:=c+i+1) ?_ (by omega),hv9.cells.2.2.1,bg.cell 0,bg.cell 1,bga.cell 0,bga.cell 1⟩
       rw [Qqt HP.out.1];unfold oneP;rw [if_neg (by rw [hx];decide),<-HAA.out];exact Sv.next hD7 (ho7.under (Below.refl _ _).drew) ⟨D9,hv9,hD9,ho9⟩
      have hsz:=(Jz5 HV)
      have s0a:∀o,(V.alloc o).cell? ⟨k.ps,0,none⟩=some (.pointer (some ⟨k.pd,0,none⟩)):=λ o=>(HV.out.1.hp.alloc o).cell 0
      have y3a:∀o,(V.alloc o).cell? ⟨g,3,none⟩=some (.slice A1 L1 C1):=λ o=>((J4 HV).alloc o).cell 3
      go_region_law (first
       | (go_simp;go_at_call 36;refine (HAp.out _ (by first | exact (Below.refl _ _).drew | exact ((Below.refl _ _).alloc (Nat.le_refl _) _).drew | exact ((Below.refl _ _).alloc (Nat.le_refl _) _))).mono ?_;rintro e V6 ⟨ev,rfl,sv6,kp6,t0,z3,t0a,z3a,pk6⟩;try (have pA:=pk6 (g+1) (Nat.le_refl _) (by simp [hsz]);have bA:=kp6 (g+1) [.int .i64 0,.int .i64 0] 85 (Nat.le_refl _) (Blk.new' hsz rfl).drew;have m0:=bA.cell 0;have m1:=bA.cell 1;have m2:=bA.frozen 0;have m3:=bA.frozen 1;simp only [List.getElem?_cons_zero,List.getElem?_cons_succ] at m0 m1)))
      all_goals (
       first
       | (
        have P7:Hid (g<g+1/\Sv D W k {st with q:=incU st.q,la:=st.la.set z (incU st.q),zs:=appZ st.s (wrY st z l i).1 z p.d,S:=(wrY st z l i).2} (c+i) ((V6.setCell ⟨g+1,0,none⟩ (.int .i64 aa.1)).setCell ⟨g+1,1,none⟩ (.int .i64 aa.2))/\Blk ((V6.setCell ⟨g+1,0,none⟩ (.int .i64 aa.1)).setCell ⟨g+1,1,none⟩ (.int .i64 aa.2)) g [.int .u32 p.t,.int .u64 p.b,.bool false,.slice A1 L1 C1] 73/\Blk ((V6.setCell ⟨g+1,0,none⟩ (.int .i64 aa.1)).setCell ⟨g+1,1,none⟩ (.int .i64 aa.2)) (g+1) [.int .i64 aa.1,.int .i64 aa.2] 85):=⟨by omega,pA _ _,(sv6.2.set_other (a:=⟨g+1,0,none⟩) (by show g≠g+1;omega) _).set_other (a:=⟨g+1,1,none⟩) (by show g≠g+1;omega) _,(bA.set 0 _).set 1 _⟩
        generalize World.setCell (World.setCell V6 _ _) _ _=V7 at P7 ⊢;generalize g+1=ga at P7 ⊢)
       | (
        have P7:Hid (g<V6.heap.size/\Sv D W k {st with q:=incU st.q,la:=st.la.set z (incU st.q),zs:=appZ st.s (wrY st z l i).1 z p.d,S:=(wrY st z l i).2} (c+i) (V6.alloc (.cells #[.int .i64 aa.1,.int .i64 aa.2] 85))/\Blk (V6.alloc (.cells #[.int .i64 aa.1,.int .i64 aa.2] 85)) g [.int .u32 p.t,.int .u64 p.b,.bool false,.slice A1 L1 C1] 73/\Blk (V6.alloc (.cells #[.int .i64 aa.1,.int .i64 aa.2] 85)) V6.heap.size [.int .i64 aa.1,.int .i64 aa.2] 85):=⟨sv6.2.lt,sv6.1.under ((Below.refl _ _).alloc (Nat.le_refl _) _),sv6.2.alloc _,Blk.new' rfl rfl⟩
        generalize World.alloc V6 _=V7 at P7 ⊢;generalize V6.heap.size=ga at P7 ⊢)
       have HC:=HPut.out V7 ga P7.out.1 (J2 P7) (J3 P7) (Jz3 P7);have y0:V7.cell? ⟨g,0,none⟩=some (.int .u32 p.t):=(J3 P7).cell 0;have y1:V7.cell? ⟨g,1,none⟩=some (.int .u64 p.b):=(J3 P7).cell 1;have a0:V7.cell? ⟨ga,0,none⟩=some (.int .i64 aa.1):=(Jz3 P7).cell 0;have a1:V7.cell? ⟨ga,1,none⟩=some (.int .i64 aa.2):=(Jz3 P7).cell 1;obtain ⟨D7,hv7,_,_⟩:=(J2 P7)
       obtain ⟨_,_,s2,_⟩:=hv7.cells;clear hv7 sv6 kp6 t0 z3 t0a z3a pk6 s0 y3 s0a y3a hsz HAp HPut;try clear pA bA m0 m1 m2 m3
       go_wp2_with fail
       go_region_held3 (λ Y=>Y.cell? ⟨k.ps,2,none⟩=some (.pointer (some ⟨k.pm,0,none⟩))/\Y.cell? ⟨g,0,none⟩=some (.int .u32 p.t)/\Y.cell? ⟨g,1,none⟩=some (.int .u64 p.b)/\Y.cell? ⟨ga,0,none⟩=some (.int .i64 aa.1)/\Y.cell? ⟨ga,1,none⟩=some (.int .i64 aa.2)) (first | exact ⟨s2,y0,y1,a0,a1⟩ | exact ⟨t2,z0,z1,b0,b1⟩)
        (first | (go_simp;go_at_call 123;refine HC.mono ?_;rintro e V9 ⟨⟨v9,rfl⟩,sv9,t2,z0,z1,b0,b1⟩))
       have H9:=Jh1 sv9;clear sv9 y0 y1 s2 t2 z0 z1 a0 a1 b0 b1 HC;go_wp2
       go_roundw
       case rel=>exact ⟨i+1,by simp,by omega,H9.out⟩
       case measure=>simp [intOf];omega)
    ·obtain rfl:i=j:=by omega
     have HE:=Jh4 hvi hDi hoi (J2 H).1;obtain ⟨R,hR⟩:∃R,R=Qbv st.s (wrY st z l i).1 z:=⟨_,rfl⟩
     have HM:Hid (R=Qbv st.s (wrY st z l i).1 z/\Qcu st z l={st with q:=incU st.q,la:=st.la.set z (incU st.q),zs:=(wrY st z l i).1,S:=(wrY st z l i).2,L:=Qti st.s (wrY st z l i).1 st.L z}):=⟨hR,by unfold Qcu;rw [(J2 H).1];simp⟩
     clear hvi hDi hoi hR;have HRo:Hid (Calls prog 78 #[.pointer (some ⟨k.ps,0,none⟩),.int .i64 (z:Nat)] wr λ e w'=>e=.returned (.int .i64 R)/\StV Di w' k {st with q:=incU st.q,la:=st.la.set z (incU st.q),zs:=(wrY st z l i).1,S:=(wrY st z l i).2} (c+i)/\Below wr.heap.size wr w'):=by
      refine (Qib (z:Nat) HE.out.1).mono ?_
      rintro e w' ⟨rfl,hb⟩;exact ⟨by rw [HM.out.1],HE.out.1.under hb,hb⟩
     by_cases hR0:R=0
     ·subst hR0
      go_wp2_with (first
       | (go_at_call 78;refine HRo.out.mono ?_;rintro e V6 ⟨rfl,hv6,hb6⟩;obtain ⟨_,s1,_⟩:=hv6.cells;have H6:=(Qr6 k.pg k.gg st.s.r st.L z V6 hv6.sg).mono (λ e w' (hh:Qdw V6 k.pg k.gg st.s.r st.L z 2 3 e w')=>(⟨⟨_,hh.1⟩,Sv.next (J2 HE) ((J3 HE).under hb6) (hv6.sgstep hh.2.1 hh.2.2 (Qbz _ _ _ _))⟩:(∃v,e=.returned v)/\Sv D W k {st with q:=incU st.q,la:=st.la.set z (incU st.q),zs:=(wrY st z l i).1,S:=(wrY st z l i).2,L:=Qcm st.L z 2 3} (c+i) w'));clear hv6 hb6)
       | (go_at_call 137;refine H6.mono ?_;rintro e V7 ⟨⟨v7,rfl⟩,sv7⟩))
      first | go_end0 | refine bodyPost_ret (results_none rfl _ _ _) rfl ?_
      refine ⟨rfl,?_⟩
      rw [HM.out.2];unfold Qti;rw [if_pos HM.out.1.symm];exact sv7
     ·have hR1:(R == 0)=false:=by simp [hR0]
      go_wp2_with (go_at_call 78;refine HRo.out.mono ?_;rintro e V6 ⟨rfl,hv6,hb6⟩)
      first | go_end0 | refine bodyPost_ret (results_none rfl _ _ _) rfl ?_
      refine ⟨rfl,?_⟩
      rw [HM.out.2];unfold Qti;rw [if_neg (by rw [<-HM.out.1];exact hR0)];exact ⟨Di,hv6,(J2 HE),(J3 HE).under hb6⟩
end
end
def blkZ (zs:List Zn) (a:Pr):Option (List Int):=if 0<=a.1/\0<=a.2 then (zs[a.1.toNat]?).bind (λ z=>z.1[a.2.toNat]?) else none
theorem Qct {zs:List Zn} {a:Pr} {E:List Int} (h:blkZ zs a=some E):∃(i j:Nat) (z:Zn),a=((i:Int),(j:Int))/\zs[i]?=some z/\z.1[j]?=some E:=by
 unfold blkZ at h;split at h
 ·rename_i hp
  obtain ⟨z,hz,hE⟩:=Option.bind_eq_some_iff.1 h;exact ⟨a.1.toNat,a.2.toNat,z,by obtain ⟨x,y⟩:=a;simp at hp ⊢;omega,hz,hE⟩
 ·cases h
def memS (zs:List Zn) (S:List Pl) (n:Pr):Option (List Int):=(getS S n).bind (blkZ zs)
def Plc (zs:List Zn) (S:List Pl):Prop:=Good S/\∀x∈S,(blkZ zs x.2).isSome
section
def memT (st:St):Pr->Option (List Int):=memS st.zs st.S
section
variable {D:Nat->Prop} {W:World} {k:Bs} {st:St} {c:Nat}
theorem Qxb {zs:List Zn} {S:List Pl} (h:Plc zs S) {n a:Pr} (hg:getS S n=some a):∃E,memS zs S n=some E/\rdE zs a.1 a.2=0/\rdB zs a.1 a.2=E:=by
 obtain ⟨E,hE⟩:=Option.isSome_iff_exists.1 (h.2 (n,a) ((Qej h.1).1 hg));obtain ⟨i,j,z,rfl,hz,hj⟩:=Qct hE;have:=Qzg hz hj;exact ⟨E,by unfold memS;rw [hg];exact hE,this⟩
set_option maxHeartbeats 1000000 in
theorem Q1l (h:StV D W k st c) (n:Pr) (hn:Qel n) (hp:Plc st.zs st.S) :
  Calls prog 38 #[.pointer (some ⟨k.ps,0,none⟩),.int .u32 n.1,.int .u64 n.2] W λ e w'=>∃v,e=.returned (.tuple #[v,.bool (memT st n).isSome])/\BkAt (λ x=>W.heap.size<=x) w' v ((memT st n).getD [])/\Below W.heap.size W w':=by
 obtain ⟨s0,_,s2,_⟩:=h.cells;have hG:=Q1z k.pm k.b1 k.b2 st.S c n W h.mp hn;have H:=Jh2 h hp;cases hg:getS st.S n with
 | none=>
  have hm:memT st n=none:=by unfold memT memS;rw [hg];rfl
  rw [hm];rw [hg] at hG;clear h hp;have HG:=Jh1 @hG;clear hG;go_enter func38,ntmps38
  go_wp2_with (go_at_call 89;refine HG.out.mono ?_;rintro e W1 ⟨rfl,hb1⟩)
  go_ret2
  exact ⟨_,rfl,BkAt.nil _ _,hb1.alloc hb1.size _⟩
 | some a=>
  obtain ⟨E,hm,hrE,hrB⟩:=Qxb hp hg;have hm':memT st n=some E:=hm;rw [hm'];rw [hg] at hG;have HG:=Jh1 @hG;have HE:=Jh2 hrE hrB;clear hG h hp hm hm' hrE hrB;go_enter func38,ntmps38
  go_wp2_with (go_at_call 89;refine HG.out.mono ?_;rintro e W1 ⟨rfl,hb1⟩)
  have HV:Hid (Below W.heap.size W (W1.alloc (.cells #[.int .i64 a.1,.int .i64 a.2] 85))/\Blk (W1.alloc (.cells #[.int .i64 a.1,.int .i64 a.2] 85)) W1.heap.size [.int .i64 a.1,.int .i64 a.2] 85):=⟨hb1.alloc hb1.size _,Blk.new' rfl rfl⟩
  clear hb1 s0 s2;generalize World.alloc W1 _=V at HV ⊢;generalize W1.heap.size=ga at HV ⊢;have t0:=(H.out.1.under HV.out.1).cells.1;have a0:V.cell? ⟨ga,0,none⟩=some (.int .i64 a.1):=HV.out.2.cell 0;have a1:V.cell? ⟨ga,1,none⟩=some (.int .i64 a.2):=HV.out.2.cell 1;have HR2:Hid (Calls prog 90 #[.pointer (some ⟨k.pd,0,none⟩),.agg #[.int .i64 a.1,.int .i64 a.2]] V.drew λ e w'=>∃A L C,e=.returned (.tuple #[.slice A L C,.int .u16 0])/\(BkAt (λ x=>W.heap.size<=x) w' (.slice A L C) E/\Below W.heap.size W w')/\w'.cell? ⟨k.ps,0,none⟩=some (.pointer (some ⟨k.pd,0,none⟩))/\w'.cell? ⟨ga,0,none⟩=some (.int .i64 a.1)/\w'.cell? ⟨ga,1,none⟩=some (.int .i64 a.2)):=by
   have hbV:Below V.heap.size V V.drew:=(Below.refl _ _).drew;refine (Qg6 a.1 a.2 (H.out.1.under (HV.out.1.trans (hbV.mono HV.out.1.size))).dv H.out.1.wf).mono ?_
   rintro e w' ⟨v,rfl,h1,h2⟩;obtain ⟨A,C,hv⟩:=Qam h1.1;subst hv;have hb':Below V.heap.size V w':=hbV.trans h2;have hbW:=HV.out.1.trans (hb'.mono HV.out.1.size);refine ⟨A,_,C,by rw [HE.out.1],⟨?_,hbW⟩,(H.out.1.under hbW).cells.1,(HV.out.2.below hb' HV.out.2.lt).cell 0,(HV.out.2.below hb' HV.out.2.lt).cell 1⟩
   rw [<-HE.out.2];exact h1.mono (λ x hx _=>by have:=HV.out.1.size;exact Nat.le_trans this hx)
  go_region_held3 (λ Y=>Y.cell? ⟨k.ps,0,none⟩=some (.pointer (some ⟨k.pd,0,none⟩))/\Y.cell? ⟨ga,0,none⟩=some (.int .i64 a.1)/\Y.cell? ⟨ga,1,none⟩=some (.int .i64 a.2)) (first | exact ⟨t0,a0,a1⟩ | exact ⟨u0,b0,b1⟩)
   (first | (go_simp;go_at_call 90;refine HR2.out.mono ?_;rintro e V9 ⟨A9,L9,C9,rfl,bk,u0,b0,b1⟩))
  have HB:=Jh1 bk;clear bk u0 b0 b1 t0 a0 a1 HR2;go_wp2
  go_ret2
  exact ⟨_,rfl,HB.out.1,HB.out.2⟩
end
end
end Go.Proofs.YtcdnjeiamihhbaaGreat
